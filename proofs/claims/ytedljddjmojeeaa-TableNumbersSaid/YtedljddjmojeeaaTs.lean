/- play of chapter 12 walked -/
import Derived.Test.YtedljddjmojeeaaTr
namespace Go.Proofs.Ytedljddjmojeeaa
open Go.RowKit
theorem PS.put {w wr w' w2 : World} {D : Nat} {rv mv rv' v : Value} {vs ms vs' : List Vt} {x : Vt} {X : Nat} (P : PS w wr D rv vs mv ms) (ht : TB w' D rv' vs') (k : Tc D rv.ownBlock wr w') (hx : EL w wr x) (hrow : RowOf w2 w'.heap.size v (lts X ms ++ [x] ++ gts X ms)) (k2 : Ex w' w2) (hct : vs'.map Vt.ct = (lts X ms ++ [x] ++ gts X ms).map Vt.ct) :
    PS w w2 D rv' vs' v (lts X ms ++ [x] ++ gts X ms) :=
  ⟨ht.ext k2, rown_less hrow (Below.size (k.ex2 P.tb P.ex P.lo)), fun y hy => by
    have hm : y ∈ ms ∨ y = x := by
      rcases List.mem_append.1 hy with h | h
      · rcases List.mem_append.1 h with h | h
        · exact Or.inl (List.mem_filter.1 h).1
        · exact Or.inr (List.mem_singleton.1 h)
      · exact Or.inl (List.mem_filter.1 h).1
    rcases hm with h | rfl
    · exact ((P.mel y h).tc P.tb k).ext k2
    · exact (hx.tc P.tb k).ext k2, hct, fun g hg he => by
      have h1 := (hrow.lt g hg).1
      have h2 := ht.row.own_lt he
      omega, P.lo, Ex.trans (k.ex2 P.tb P.ex P.lo) k2⟩
theorem VB.tc {w w' : World} {D g : Nat} {rv : Value} {vs : List Vt} {x : Vt} (h : VB w g x) (k : Tc D rv.ownBlock w w') (ht : TB w D rv vs) (hr : rv.ownBlock ≠ some g) : VB w' g x :=
  ⟨h.1, k.bk h.2 (fun e => by subst e; have h1 := ht.blk; have h2 := h.2; unfold Bk at h1 h2; rw [h1] at h2; exact absurd (Obj.cells.inj (Option.some.inj h2)).2.1 (by decide)) (fun e => hr e.symm)⟩
theorem PS.inn_tc {w wr w' : World} {D : Nat} {rv mv : Value} {vs ms : List Vt} (P : PS w wr D rv vs mv ms) (k : Tc D rv.ownBlock wr w') : ∃ ad cap, mv = .slice ad ms.length cap ∧ Vp.In ad cap ms w' := by
  obtain ⟨ad, cap, e, h, _⟩ := row_inn (P.mrow.tc P.tb P.dj k) (fun x hx => (P.mel x hx).1)
  exact ⟨ad, cap, e, h⟩
theorem PS.bi {w wr : World} {D : Nat} {rv mv : Value} {vs ms : List Vt} {X p : Nat} (P : PS w wr D rv vs mv ms) (h : BI vs.length (Go.Proofs.Ytedljddjmojeeaa.idF vs) X p) : BI ms.length (Go.Proofs.Ytedljddjmojeeaa.idF ms) X p := by
  rw [← P.len]
  exact ⟨h.1, fun q hq => by rw [← P.idF]; exact h.2.1 q hq, fun q h1 h2 => by rw [← P.idF]; exact h.2.2 q h1 h2⟩
theorem PS.mono {w wr : World} {D : Nat} {rv mv : Value} {vs ms : List Vt} (P : PS w wr D rv vs mv ms) : ∀ i j, i < j → j < ms.length → Go.Proofs.Ytedljddjmojeeaa.idF ms i < Go.Proofs.Ytedljddjmojeeaa.idF ms j := fun i j h1 h2 => by
  rw [← P.idF, ← P.idF]; exact P.tb.srt i j h1 (by rw [P.len]; exact h2)
theorem ct_ins {w wr : World} {D : Nat} {rv mv : Value} {vs ms : List Vt} {p X : Nat} {z x : Vt} (P : PS w wr D rv vs mv ms) (hb : BI vs.length (idF vs) X p) (hn : NotIn vs X) (hz : z.ct = x.ct) : (vs.take p ++ z :: vs.drop p).map Vt.ct = (lts X ms ++ [x] ++ gts X ms).map Vt.ct := by
  have hb' := P.bi hb
  rw [lts_take hb', gts_drop hb' (Nat.le_refl p) (fun i hi => Nat.le_of_lt (hb'.2.1 i hi)) (fun i h1 h2 => by
    rcases Nat.eq_or_lt_of_le (hb'.2.2 i h1 h2) with h | h
    · exact absurd ⟨i, by rw [P.len]; exact h2, by rw [P.idF]; exact h.symm⟩ hn
    · exact h)]
  simp only [List.map_append, List.map_cons, List.map_nil, List.map_take, List.map_drop, P.ct, hz, List.append_assoc, List.cons_append, List.nil_append]
theorem ct_set {w wr : World} {D : Nat} {rv mv : Value} {vs ms : List Vt} {p X : Nat} {z x : Vt} (P : PS w wr D rv vs mv ms) (hb : BI vs.length (idF vs) X p) (hp : p < vs.length) (hf : idF vs p = X) (hz : z.ct = x.ct) : (vs.set p z).map Vt.ct = (lts X ms ++ [x] ++ gts X ms).map Vt.ct := by
  have hb' := P.bi hb
  have hm := P.mono
  have hfm : idF ms p = X := by rw [← P.idF]; exact hf
  rw [lts_take hb', gts_drop hb' (Nat.le_succ p) (fun i hi => by
    rcases Nat.eq_or_lt_of_le (Nat.le_of_lt_succ hi) with h | h
    · rw [h, hfm]; exact Nat.le_refl _
    · exact Nat.le_of_lt (hb'.2.1 i h)) (fun i h1 h2 => by rw [← hfm]; exact hm p i h1 h2)]
  rw [List.map_set, P.ct, List.set_eq_take_append_cons_drop, if_pos (by rw [List.length_map, ← P.len]; exact hp)]
  simp only [List.map_append, List.map_cons, List.map_nil, List.map_take, List.map_drop, hz, List.append_assoc, List.cons_append, List.nil_append]
theorem ks_no {w wr : World} {D : Nat} {rv mv : Value} {vs ms : List Vt} {X : Nat} (P : PS w wr D rv vs mv ms) (h : ∀ q, q < ms.length → idF ms q ≠ X) : NotIn vs X := fun ⟨q, h1, h2⟩ => h q (by rw [← P.len]; exact h1) (by rw [← P.idF]; exact h2)
theorem PS.fill {w wr w' : World} {D : Nat} {rv mv rv' fv : Value} {vs ms zs fs : List Vt} (P : PS w wr D rv vs mv ms) (ht : TB w' D rv' zs) (hct : zs.map Vt.ct = fs.map Vt.ct) (hr : ∀ g, rv'.ownBlock = some g → wr.heap.size ≤ g) (k : Kt [99] D wr w') (hf : VRow wr w.heap.size fv fs) : PS w w' D rv' zs fv fs :=
  ⟨ht, k.row hf.row (by decide), fun x hx => ((hf.mem hx).kt k (by decide)).el, hct, fun g hg he => by have h1 := hr g he; have h2 := hf.own_lt hg; omega, P.lo, Below.trans P.ex (k.below.mono P.lo)⟩
def firstLoop : Code → Option Code
  | .loop c => some c
  | .seq a b => match firstLoop a with
    | some c => some c
    | none => firstLoop b
  | .block _ c => firstLoop c
  | .scope c => firstLoop c
  | .cond _ a b => match firstLoop a with
    | some c => some c
    | none => firstLoop b
  | _ => none
noncomputable def p12Body : Code := ((Try.f19.body.bind firstLoop).getD .skip)
def p12I (w : World) (ad : Option Addr) (cap n : Nat) (l : List At) (D : Nat) (a : Act) (wr : World) : Prop := ∃ (mv : Value) (rv : Value) (k : Nat) (vs : List Vt) (ms : List Vt), (k ≤ n ∧ Hid (PS w wr D rv vs mv ms)) ∧ a.tmps.size = 179 ∧ a.defers = [] ∧ a.tmps[0]? = some (.slice ad n cap) ∧ a.tmps[2]? = some (.bool false) ∧ a.tmps[3]? = some (.pointer (some ⟨D, 0, none⟩)) ∧ a.tmps[4]? = some (mv) ∧ a.tmps[5]? = some (.int .i64 k)
def p12M (n : Nat) (a : Act) (_ : World) : Nat := n - (intOf (a.tmps.getD 5 undef)).toNat
set_option maxRecDepth 100000 in
theorem p12I.lit {w : World} {ad : Option Addr} {cap n : Nat} {l : List At} {D : Nat} {a : Act} {wr : World} (h : p12I w ad cap n l D a wr) : ∃ (mv : Value) (rv : Value) (k : Nat) (vs : List Vt) (ms : List Vt) (y : Nat → Value), (k ≤ n ∧ Hid (PS w wr D rv vs mv ms)) ∧ a = ⟨#[.slice ad n cap, y 1, .bool false, .pointer (some ⟨D, 0, none⟩), mv, .int .i64 k, y 6, y 7, y 8, y 9, y 10, y 11, y 12, y 13, y 14, y 15, y 16, y 17, y 18, y 19, y 20, y 21, y 22, y 23, y 24, y 25, y 26, y 27, y 28, y 29, y 30, y 31, y 32, y 33, y 34, y 35, y 36, y 37, y 38, y 39, y 40, y 41, y 42, y 43, y 44, y 45, y 46, y 47, y 48, y 49, y 50, y 51, y 52, y 53, y 54, y 55, y 56, y 57, y 58, y 59, y 60, y 61, y 62, y 63, y 64, y 65, y 66, y 67, y 68, y 69, y 70, y 71, y 72, y 73, y 74, y 75, y 76, y 77, y 78, y 79, y 80, y 81, y 82, y 83, y 84, y 85, y 86, y 87, y 88, y 89, y 90, y 91, y 92, y 93, y 94, y 95, y 96, y 97, y 98, y 99, y 100, y 101, y 102, y 103, y 104, y 105, y 106, y 107, y 108, y 109, y 110, y 111, y 112, y 113, y 114, y 115, y 116, y 117, y 118, y 119, y 120, y 121, y 122, y 123, y 124, y 125, y 126, y 127, y 128, y 129, y 130, y 131, y 132, y 133, y 134, y 135, y 136, y 137, y 138, y 139, y 140, y 141, y 142, y 143, y 144, y 145, y 146, y 147, y 148, y 149, y 150, y 151, y 152, y 153, y 154, y 155, y 156, y 157, y 158, y 159, y 160, y 161, y 162, y 163, y 164, y 165, y 166, y 167, y 168, y 169, y 170, y 171, y 172, y 173, y 174, y 175, y 176, y 177, y 178], []⟩ := by
  obtain ⟨mv, rv, k, vs, ms, hfacts, hsz, hdf, e0, e2, e3, e4, e5⟩ := h
  have hA := arr_range a.tmps 179 hsz
  change a.tmps = #[a.tmps[0]?.getD undef, a.tmps[1]?.getD undef, a.tmps[2]?.getD undef, a.tmps[3]?.getD undef, a.tmps[4]?.getD undef, a.tmps[5]?.getD undef, a.tmps[6]?.getD undef, a.tmps[7]?.getD undef, a.tmps[8]?.getD undef, a.tmps[9]?.getD undef, a.tmps[10]?.getD undef, a.tmps[11]?.getD undef, a.tmps[12]?.getD undef, a.tmps[13]?.getD undef, a.tmps[14]?.getD undef, a.tmps[15]?.getD undef, a.tmps[16]?.getD undef, a.tmps[17]?.getD undef, a.tmps[18]?.getD undef, a.tmps[19]?.getD undef, a.tmps[20]?.getD undef, a.tmps[21]?.getD undef, a.tmps[22]?.getD undef, a.tmps[23]?.getD undef, a.tmps[24]?.getD undef, a.tmps[25]?.getD undef, a.tmps[26]?.getD undef, a.tmps[27]?.getD undef, a.tmps[28]?.getD undef, a.tmps[29]?.getD undef, a.tmps[30]?.getD undef, a.tmps[31]?.getD undef, a.tmps[32]?.getD undef, a.tmps[33]?.getD undef, a.tmps[34]?.getD undef, a.tmps[35]?.getD undef, a.tmps[36]?.getD undef, a.tmps[37]?.getD undef, a.tmps[38]?.getD undef, a.tmps[39]?.getD undef, a.tmps[40]?.getD undef, a.tmps[41]?.getD undef, a.tmps[42]?.getD undef, a.tmps[43]?.getD undef, a.tmps[44]?.getD undef, a.tmps[45]?.getD undef, a.tmps[46]?.getD undef, a.tmps[47]?.getD undef, a.tmps[48]?.getD undef, a.tmps[49]?.getD undef, a.tmps[50]?.getD undef, a.tmps[51]?.getD undef, a.tmps[52]?.getD undef, a.tmps[53]?.getD undef, a.tmps[54]?.getD undef, a.tmps[55]?.getD undef, a.tmps[56]?.getD undef, a.tmps[57]?.getD undef, a.tmps[58]?.getD undef, a.tmps[59]?.getD undef, a.tmps[60]?.getD undef, a.tmps[61]?.getD undef, a.tmps[62]?.getD undef, a.tmps[63]?.getD undef, a.tmps[64]?.getD undef, a.tmps[65]?.getD undef, a.tmps[66]?.getD undef, a.tmps[67]?.getD undef, a.tmps[68]?.getD undef, a.tmps[69]?.getD undef, a.tmps[70]?.getD undef, a.tmps[71]?.getD undef, a.tmps[72]?.getD undef, a.tmps[73]?.getD undef, a.tmps[74]?.getD undef, a.tmps[75]?.getD undef, a.tmps[76]?.getD undef, a.tmps[77]?.getD undef, a.tmps[78]?.getD undef, a.tmps[79]?.getD undef, a.tmps[80]?.getD undef, a.tmps[81]?.getD undef, a.tmps[82]?.getD undef, a.tmps[83]?.getD undef, a.tmps[84]?.getD undef, a.tmps[85]?.getD undef, a.tmps[86]?.getD undef, a.tmps[87]?.getD undef, a.tmps[88]?.getD undef, a.tmps[89]?.getD undef, a.tmps[90]?.getD undef, a.tmps[91]?.getD undef, a.tmps[92]?.getD undef, a.tmps[93]?.getD undef, a.tmps[94]?.getD undef, a.tmps[95]?.getD undef, a.tmps[96]?.getD undef, a.tmps[97]?.getD undef, a.tmps[98]?.getD undef, a.tmps[99]?.getD undef, a.tmps[100]?.getD undef, a.tmps[101]?.getD undef, a.tmps[102]?.getD undef, a.tmps[103]?.getD undef, a.tmps[104]?.getD undef, a.tmps[105]?.getD undef, a.tmps[106]?.getD undef, a.tmps[107]?.getD undef, a.tmps[108]?.getD undef, a.tmps[109]?.getD undef, a.tmps[110]?.getD undef, a.tmps[111]?.getD undef, a.tmps[112]?.getD undef, a.tmps[113]?.getD undef, a.tmps[114]?.getD undef, a.tmps[115]?.getD undef, a.tmps[116]?.getD undef, a.tmps[117]?.getD undef, a.tmps[118]?.getD undef, a.tmps[119]?.getD undef, a.tmps[120]?.getD undef, a.tmps[121]?.getD undef, a.tmps[122]?.getD undef, a.tmps[123]?.getD undef, a.tmps[124]?.getD undef, a.tmps[125]?.getD undef, a.tmps[126]?.getD undef, a.tmps[127]?.getD undef, a.tmps[128]?.getD undef, a.tmps[129]?.getD undef, a.tmps[130]?.getD undef, a.tmps[131]?.getD undef, a.tmps[132]?.getD undef, a.tmps[133]?.getD undef, a.tmps[134]?.getD undef, a.tmps[135]?.getD undef, a.tmps[136]?.getD undef, a.tmps[137]?.getD undef, a.tmps[138]?.getD undef, a.tmps[139]?.getD undef, a.tmps[140]?.getD undef, a.tmps[141]?.getD undef, a.tmps[142]?.getD undef, a.tmps[143]?.getD undef, a.tmps[144]?.getD undef, a.tmps[145]?.getD undef, a.tmps[146]?.getD undef, a.tmps[147]?.getD undef, a.tmps[148]?.getD undef, a.tmps[149]?.getD undef, a.tmps[150]?.getD undef, a.tmps[151]?.getD undef, a.tmps[152]?.getD undef, a.tmps[153]?.getD undef, a.tmps[154]?.getD undef, a.tmps[155]?.getD undef, a.tmps[156]?.getD undef, a.tmps[157]?.getD undef, a.tmps[158]?.getD undef, a.tmps[159]?.getD undef, a.tmps[160]?.getD undef, a.tmps[161]?.getD undef, a.tmps[162]?.getD undef, a.tmps[163]?.getD undef, a.tmps[164]?.getD undef, a.tmps[165]?.getD undef, a.tmps[166]?.getD undef, a.tmps[167]?.getD undef, a.tmps[168]?.getD undef, a.tmps[169]?.getD undef, a.tmps[170]?.getD undef, a.tmps[171]?.getD undef, a.tmps[172]?.getD undef, a.tmps[173]?.getD undef, a.tmps[174]?.getD undef, a.tmps[175]?.getD undef, a.tmps[176]?.getD undef, a.tmps[177]?.getD undef, a.tmps[178]?.getD undef] at hA
  rw [e0, e2, e3, e4, e5] at hA
  simp only [Option.getD_some] at hA
  have ea : a = ⟨a.tmps, a.defers⟩ := rfl
  rw [hA, hdf] at ea
  exact ⟨mv, rv, k, vs, ms, fun t => a.tmps[t]?.getD undef, hfacts, ea⟩
end Go.Proofs.Ytedljddjmojeeaa
