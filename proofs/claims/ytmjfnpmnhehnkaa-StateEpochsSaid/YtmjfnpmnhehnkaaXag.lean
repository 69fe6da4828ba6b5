/- Tc, Td -/
import Derived.Test.YtmjfnpmnhehnkaaXaf
namespace Go.Proofs.Ytmjfnpmnhehnkaa
open Go.RowKit
section
variable {P : Program} {ops : Array Oper} {rest : List Oper} {d : Option Tmp} {t2 : TypeId} {pos : String} {af : Array Edge} {g : Option (Nat × Bool)} {a : Act} {w : World} {Q : Exit → Act → World → Prop}
theorem stop_bs {t : TypeId} {n : Nat} {fs : Array (Nat × Operand)} (k : Stop (wpList P ops Q ({ dst := d, op := .buildSlice t n fs, type := t2, pos := pos, after := af, guard := g } :: rest) a w)) : wpList P ops Q ({ dst := d, op := .buildSlice t n fs, type := t2, pos := pos, after := af, guard := g } :: rest) a w := k.go
theorem stop_app {x y : Operand} {ts : Array TypeId} (k : Stop (wpList P ops Q ({ dst := d, op := .call { callee := .builtin .append, args := #[x, y], argTypes := ts }, type := t2, pos := pos, after := af, guard := g } :: rest) a w)) : wpList P ops Q ({ dst := d, op := .call { callee := .builtin .append, args := #[x, y], argTypes := ts }, type := t2, pos := pos, after := af, guard := g } :: rest) a w := k.go
end
set_option maxRecDepth 100000 in
theorem wp_bsv {o : Oper} {a : Act} {w : World} {K : Act → World → Prop} {Q : Exit → Act → World → Prop} (y : Operand) (x : Vt) (hx : x.Ok) (ho : o.op = .buildSlice 37 1 #[(0, y)]) (hy : a.eval y = x.V)
  (hk : K (a.put o.dst (.slice (some ⟨w.heap.size, 0, none⟩) 1 1)) (w.alloc (.cells x.C.toArray 36))) : o.wp Try.prog a w K Q := by
 have h1 := hx.idN; have h2 := hx.pinN; have h3 := hx.ownN
 obtain ⟨id, gen, pin, ⟨ad, cap, sec⟩, lim, used, own, gone, wiped⟩ := x
 obtain ⟨i0, i1, i2, i3, rfl⟩ := len4 h1
 obtain ⟨p0, p1, p2, p3, p4, p5, p6, p7, p8, p9, p10, p11, p12, p13, p14, p15, rfl⟩ := len16 h2
 obtain ⟨o0, o1, o2, o3, o4, o5, o6, o7, o8, o9, o10, o11, o12, o13, o14, o15, rfl⟩ := len16 h3
 have hy : a.eval y = .agg #[.int .u8 i0.toNat, .int .u8 i1.toNat, .int .u8 i2.toNat, .int .u8 i3.toNat, .int .u64 gen, .int .u8 p0.toNat, .int .u8 p1.toNat, .int .u8 p2.toNat, .int .u8 p3.toNat, .int .u8 p4.toNat, .int .u8 p5.toNat, .int .u8 p6.toNat, .int .u8 p7.toNat, .int .u8 p8.toNat, .int .u8 p9.toNat, .int .u8 p10.toNat, .int .u8 p11.toNat, .int .u8 p12.toNat, .int .u8 p13.toNat, .int .u8 p14.toNat, .int .u8 p15.toNat, .slice ad sec.length cap, .int .i64 lim, .int .i64 used, .int .u8 o0.toNat, .int .u8 o1.toNat, .int .u8 o2.toNat, .int .u8 o3.toNat, .int .u8 o4.toNat, .int .u8 o5.toNat, .int .u8 o6.toNat, .int .u8 o7.toNat, .int .u8 o8.toNat, .int .u8 o9.toNat, .int .u8 o10.toNat, .int .u8 o11.toNat, .int .u8 o12.toNat, .int .u8 o13.toNat, .int .u8 o14.toNat, .int .u8 o15.toNat, .bool gone, .bool wiped] := hy
 unfold Oper.wp
 obtain ⟨ev, hev⟩ : ∃ ev, ev = a.eval := ⟨_, rfl⟩
 rw [← hev] at hy ⊢
 clear hev
 unfold execOp
 simp only [ho]
 simp [hy, go_sem]
 go_simp
 exact hk
theorem vflat_len : ∀ (l : List Vt) (_ : ∀ (i : Nat) (x : Vt), l[i]? = some x → x.Ok), (l.flatMap Vt.C).length = l.length * 42
 | [], _ => rfl
 | x :: r, H => by rw [List.flatMap_cons, List.length_append, vflat_len r (fun k z hz => H (k + 1) z (by simpa using hz)), Vt.len (H 0 x rfl), List.length_cons]; omega
theorem vflat_at : ∀ (l : List Vt) (_ : ∀ (i : Nat) (x : Vt), l[i]? = some x → x.Ok) (i j : Nat) (x : Vt), l[i]? = some x → j < 42 → (l.flatMap Vt.C)[i * 42 + j]? = x.C[j]?
 | [], _, _, _, _, h, _ => by simp at h
 | y :: r, H, 0, j, x, h, hj => by
  obtain rfl : y = x := by simpa using h
  rw [List.flatMap_cons, List.getElem?_append_left (by rw [Vt.len (H 0 y rfl)]; omega)]
  congr 1; omega
 | y :: r, H, i + 1, j, x, h, hj => by
  have hy := Vt.len (H 0 y rfl)
  rw [List.flatMap_cons, List.getElem?_append_right (by omega), hy, show (i + 1) * 42 + j - 42 = i * 42 + j by omega]
  exact vflat_at r (fun k z hz => H (k + 1) z (by simpa using hz)) i j x (by simpa using h) hj
theorem Vt.C_one (x : Vt) : ∀ u ∈ x.C, u.oneCell' = true := by
 have := x.ones
 rw [List.all_toArray] at this
 exact List.all_eq_true.1 this
theorem vflat_one (ls : List Vt) : ∀ u ∈ ls.flatMap Vt.C, u.oneCell' = true := by
 intro u hu
 rw [List.mem_flatMap] at hu
 obtain ⟨x, _, hx⟩ := hu
 exact x.C_one u hx
theorem Try.infoVt : (Try.prog.info? 36).map (fun i => (i.zero, i.size, i.bytes)) = some (some zeroVt.V, 42, 96) := by kernel_rfl
/-- a vault whose secret lies in a block of bytes -/
structure TVN (w : World) (x : Vt) : Prop where
 ok : x.Ok
 sec : PN w 0 x.sec
 len : x.sec.l.length ≤ 64
theorem TVN.ext {w w' : World} {x : Vt} (h : TVN w x) (k : Ex w w') : TVN w' x := ⟨h.ok, h.sec.ext k, h.len⟩
theorem PN.kt {S : List Nat} {B B' : Nat} {w w' : World} {p : Pt} (h : PN w B' p) (k : Kt S B w w') (hs : 5 ∉ S) : PN w' B' p := by
 refine ⟨⟨h.1.cap, h.1.nil, fun h0 => ?_⟩, fun a e => ⟨(h.2 a e).1, (h.2 a e).2.elim fun cs hc => ⟨cs, k.bk hc hs⟩⟩⟩
 obtain ⟨a, o, e, hB, hc⟩ := h.1.read h0
 obtain ⟨_, cs, hb⟩ := h.2 _ e
 refine ⟨a, o, e, Nat.lt_of_lt_of_le hB k.size, fun i hi => ?_⟩
 rw [← hc i hi]
 have h2 := k.bk hb hs
 unfold Bk at hb h2
 simp only [World.cell?, h2, hb]
theorem TVN.kt {S : List Nat} {B : Nat} {w w' : World} {x : Vt} (h : TVN w x) (k : Kt S B w w') (hs : 5 ∉ S) : TVN w' x := ⟨h.ok, h.sec.kt k hs, h.len⟩
theorem TVN.vi {w : World} {x : Vt} (h : TVN w x) : VI w x := ⟨h.ok, h.sec.1⟩
/-- a row of vaults of one's own -/
structure VRow (w : World) (B : Nat) (v : Value) (xs : List Vt) : Prop where
 row : w.ownsRow B 36 42 v xs.length (xs.flatMap Vt.C)
 ins : ∀ (i : Nat) (x : Vt), xs[i]? = some x → TVN w x
theorem VRow.nil (w : World) (B : Nat) : VRow w B (.slice none 0 0) [] := ⟨World.ownsRow_nil _ _ _ _, fun i x hx => by simp at hx⟩
theorem VRow.ext {w w' : World} {B : Nat} {v : Value} {xs : List Vt} (h : VRow w B v xs) (k : Ex w w') : VRow w' B v xs := ⟨k.row h.row, fun i x hx => (h.ins i x hx).ext k⟩
theorem VRow.less {w : World} {B B' : Nat} {v : Value} {xs : List Vt} (h : VRow w B v xs) (k : B' ≤ B) : VRow w B' v xs := ⟨rown_less h.row k, h.ins⟩
theorem VRow.inn {w : World} {B : Nat} {v : Value} {xs : List Vt} (h : VRow w B v xs) : ∃ ad cap, v = .slice ad xs.length cap ∧ Vp.In ad cap xs w := by
 have hok : ∀ (i : Nat) (x : Vt), xs[i]? = some x → x.Ok := fun i x hx => (h.ins i x hx).ok
 obtain ⟨⟨h1, ⟨hv, h0⟩ | ⟨g, cap, cur, rfl, hb, hh, hc, hm, hs, ht⟩⟩, hin⟩ := h
 ·exact ⟨none, 0, by rw [h0]; exact hv, ⟨by rw [h0]; exact Nat.le_refl 0, fun _ => rfl, hok, fun h => by omega⟩⟩
 refine ⟨some ⟨g, 0, none⟩, cap, rfl, ⟨hc, (fun h => by cases h), hok, fun _ => ⟨g, 0, rfl, (show Bk w g 36 cur from hh).lt, fun i x hx j u hu => ?_⟩⟩⟩
 have hil : i < xs.length := (List.getElem?_eq_some_iff.1 hx).1
 have hj : j < 42 := by have := (List.getElem?_eq_some_iff.1 hu).1; rw [Vt.len (hok i x hx)] at this; exact this
 have h3 := vflat_at xs hok i j x hx hj
 rw [← ht, hu, List.getElem?_take, if_pos (by omega)] at h3
 rw [(show Bk w g 36 cur from hh).cell, Nat.zero_add, ← Array.getElem?_toList]
 exact h3
theorem VRow.app {w w2 : World} {B : Nat} {v v' : Value} {xs : List Vt} {z : Vt} (h : VRow w B v xs) (k : Kt [36] B w w2) (hr : w2.ownsRow B 36 42 v' (xs.length + 1) (xs.flatMap Vt.C ++ z.C)) (hz : TVN w z) : VRow w2 B v' (xs ++ [z]) :=
 ⟨by rw [List.length_append, List.flatMap_append]; simpa using hr, fun i x hx => by
  rcases List.mem_append.1 (List.mem_of_getElem? hx) with h1 | h1
  ·obtain ⟨j, hj, e⟩ := List.getElem_of_mem h1
   exact (h.ins j x (by rw [List.getElem?_eq_getElem hj, e])).kt k (by decide)
  ·rw [List.mem_singleton.1 h1]; exact hz.kt k (by decide)⟩
def idF (vs : List Vt) (i : Nat) : Nat := idn (vs.getD i zeroVt).id
theorem idF_at (vs : List Vt) (i : Nat) (x : Vt) (h : vs[i]? = some x) : idF vs i = idn x.id := by unfold idF; rw [List.getD_eq_getElem?_getD, h]; rfl
/-- a table: its block, its row, which rises -/
structure TB (w : World) (T : Nat) (rv : Value) (vs : List Vt) : Prop where
 blk : Bk w T 169 #[rv]
 row : VRow w (T + 1) rv vs
 len : vs.length ≤ 4
 srt : ∀ i j, i < j → j < vs.length → idF vs i < idF vs j
theorem TB.ext {w w' : World} {T : Nat} {rv : Value} {vs : List Vt} (h : TB w T rv vs) (k : Ex w w') : TB w' T rv vs := ⟨h.blk.ext k, h.row.ext k, h.len, h.srt⟩
theorem TB.mono {w : World} {T : Nat} {rv : Value} {vs : List Vt} (h : TB w T rv vs) : ∀ i j, i ≤ j → j < vs.length → idF vs i ≤ idF vs j := fun i j hij hj => by
 rcases Nat.eq_or_lt_of_le hij with e | e
 ·rw [e]; exact Nat.le_refl _
 ·exact Nat.le_of_lt (h.srt i j e hj)
set_option maxHeartbeats 4000000 in
set_option maxRecDepth 100000 in
theorem tnew_any (w : World) : Calls Try.prog 58 #[] w fun e w' => ∃ D, e = .returned (.pointer (some ⟨D, 0, none⟩)) ∧ w.heap.size ≤ D ∧ TB w' D (.slice none 0 0) [] ∧ Ex w w' := by
 go_enter Try.func58, Try.ntmps58
 go_wp2_with fail
 go_ret
 exact ⟨w.heap.size, rfl, Nat.le_refl _, ⟨Bk.new rfl _ _, VRow.nil _ _, by decide, fun i j _ hj => absurd hj (Nat.not_lt_zero j)⟩, Ex.alloc _ _⟩
set_option maxHeartbeats 4000000 in
set_option maxRecDepth 100000 in
theorem tlen_any (D : Nat) (rv : Value) (vs : List Vt) (w : World) (h : TB w D rv vs) : Calls Try.prog 79 #[.pointer (some ⟨D, 0, none⟩)] w fun e w' => e = .returned (.int .i64 vs.length) ∧ w = w' := by
 obtain ⟨ad, cap, rfl, _⟩ := h.row.inn
 have c0 : w.cell? ⟨D, 0, none⟩ = some (.slice ad vs.length cap) := h.blk.cell 0
 clear h
 generalize vs.length = n at *
 go_enter Try.func79, Try.ntmps79
 go_wp2_with fail
 go_ret
 exact ⟨rfl, rfl⟩
/-- where an ID is, or would be -/
def BI (n : Nat) (F : Nat → Nat) (X p : Nat) : Prop := p ≤ n ∧ (∀ q, q < p → F q < X) ∧ (∀ q, p ≤ q → q < n → X ≤ F q)
def BQ (n : Nat) (F : Nat → Nat) (X p : Nat) (b : Bool) : Prop := BI n F X p ∧ b = decide (∃ q, q < n ∧ F q = X)
theorem bq_found {n : Nat} {F : Nat → Nat} {X p : Nat} {b : Bool} (z1 : p ≤ n) (z2 : ∀ q, q < p → F q < X) (z3 : ∀ q, p ≤ q → q < n → X ≤ F q) (z4 : b = decide (p < n ∧ F p = X)) (hm : ∀ i j, i ≤ j → j < n → F i ≤ F j) : b = decide (∃ q, q < n ∧ F q = X) := by
 rw [z4]
 congr 1
 apply propext
 refine ⟨fun ⟨h1, h2⟩ => ⟨p, h1, h2⟩, fun ⟨q, h1, h2⟩ => ?_⟩
 have hq : p ≤ q := by
  rcases Nat.lt_or_ge q p with h | h
  ·have := z2 q h; omega
  ·exact h
 have h3 := z3 p (Nat.le_refl _) (by omega)
 have h4 := hm p q hq h1
 exact ⟨by omega, by omega⟩
def FindPost (n : Nat) (F : Nat → Nat) (X : Nat) (w : World) (e : Ending) (w' : World) : Prop :=
 ∃ p : Nat, e = .returned (.tuple #[.int .i64 p, .bool (decide (∃ q, q < n ∧ F q = X))]) ∧ BI n F X p ∧ Ex w w'
set_option maxHeartbeats 4000000 in
set_option maxRecDepth 100000 in
theorem find_any (D : Nat) (rv : Value) (vs : List Vt) (id : List UInt8) (w : World) (h : TB w D rv vs) (hid : id.length = 4) : Calls Try.prog 100 #[.pointer (some ⟨D, 0, none⟩), digV id] w (FindPost vs.length (idF vs) (idn id) w) := by
 obtain ⟨ds, hds⟩ : ∃ ds, ds = (Lib.byteCells id).toArray := ⟨_, rfl⟩
 have B0 : Hid (Bk (w.alloc (.cells ds 32)) w.heap.size 32 (Lib.byteCells id).toArray) := Hi (by rw [hds]; exact Bk.new rfl _ _)
 have BW : Hid (Ex w (w.alloc (.cells ds 32))) := Hi (Ex.alloc w _)
 have CB := Hi (fun (w1 : World) (k : Ex w w1) (ad : Option Addr) (cap : Nat) (hin : Vp.In ad cap vs w1) => bsf_any ad cap vs (idF vs) (idF_at vs) id w1 h.len hid hin h.mono)
 have HMN := Hi h.mono
 have HTB := Hi (h.ext BW.out)
 obtain ⟨ad, cap, rfl, _⟩ := h.row.inn
 have HID := Hi hid
 rw [show (Calls Try.prog 100 #[.pointer (some ⟨D, 0, none⟩), digV id] w) = (Calls Try.prog 100 #[.pointer (some ⟨D, 0, none⟩), .agg ds] w) by rw [hds]; rfl]
 obtain ⟨n, hn⟩ : ∃ n, n = vs.length := ⟨_, rfl⟩
 rw [← hn] at HTB CB HMN ⊢
 have HN := Hi hn
 clear hn
 clear hds hid h
 go_enter Try.func100, Try.ntmps100
 go_wp2_with fail
 change Code.wp _ _ _ _ (w.alloc (.cells ds 32))
 generalize hw1 : (w.alloc (.cells ds 32)) = w1 at *
 clear hw1
 obtain ⟨g, hg⟩ : ∃ g, g = w.heap.size := ⟨_, rfl⟩
 rw [← hg] at B0 ⊢
 clear hg
 obtain ⟨T, hT⟩ : ∃ T : List (Rw w1.heap.size), T = [.is (.pointer (some ⟨D, 0, none⟩)), .is (.pointer (some ⟨D, 0, none⟩)), .is (.pointer (some ⟨D, 0, none⟩)), .is (.slice ad n cap), .is (digV id), ⟨[], fun v _ => ∃ (p : Nat) (b : Bool), v = .tuple #[.int .i64 p, .bool b] ∧ BQ n (idF vs) (idn id) p b, fun _ _ _ _ h _ _ => h⟩, ⟨[], fun v _ => ∃ (p : Nat), v = .int .i64 p ∧ BI n (idF vs) (idn id) p, fun _ _ _ _ h _ _ => h⟩, ⟨[], fun v _ => v = .bool (decide (∃ q, q < n ∧ idF vs q = idn id)), fun _ _ _ _ h _ _ => h⟩, ⟨[], fun v _ => ∃ (p : Nat), v = .int .i64 p ∧ BI n (idF vs) (idn id) p, fun _ _ _ _ h _ _ => h⟩, ⟨[], fun v _ => v = .bool (decide (∃ q, q < n ∧ idF vs q = idn id)), fun _ _ _ _ h _ _ => h⟩] := ⟨_, rfl⟩
 have HTY : T.map Rw.tys = ([[], [], [], [], [], [], [], [], [], []] : List (List Nat)) := by rw [hT]; rfl
 refine wp_region_gen (JW w1.heap.size w1 [0] T ([[], [], [], [], [], [], [], [], [], []] : List (List Nat)) ([none, none, none, none, none, none, none, none, none, none] : List (Option Nat)) ([] : List (Nat × Nat)) 100000) (by kernel_rfl) (by kernel_rfl) (by kernel_rfl) (fitB_spec (by kernel_rfl)) (fun listed f h => JW.start (Nat.le_refl _) listed f h) ?_ ?_
 ·intro i o ho
  have hi : i < 10 := (Array.getElem?_eq_some_iff.1 ho).1
  have hi' : i = 0 ∨ i = 1 ∨ i = 2 ∨ i = 3 ∨ i = 4 ∨ i = 5 ∨ i = 6 ∨ i = 7 ∨ i = 8 ∨ i = 9 := by omega
  clear hi
  rcases hi' with rfl | rfl | rfl | rfl | rfl | rfl | rfl | rfl | rfl | rfl
  all_goals (simp only [List.getElem?_toArray, List.getElem?_cons_zero, List.getElem?_cons_succ, Option.some.injEq] at ho; subst ho; intro listed f a w2 hJ hsz hls hun hdep hout hlat; first | (rw [if_pos (by rfl)]; intro K hK) | skip)
  ·have q0 := hout 0 (outB_spec (by kernel_rfl))
   refine wp_mv _ rfl (hK _ _ ?_)
   rw [show a.eval (.tmp 0) = .pointer (some ⟨D, 0, none⟩) from q0]
   exact hJ.plain HTY (by rw [hls]; decide) (Ex.refl _) (by rw [hT]; rfl) (no_head (by decide))
  ·have dd6 := hdep ⟨0, .data⟩ (by simp) rfl
   have q6 := dd6.2 _ rfl _ rfl
   have h6 := hJ.vals 0 dd6.1 no_c
   rw [hT] at h6
   rw [show f 0 = .pointer (some ⟨D, 0, none⟩) from h6] at q6
   clear h6
   clear dd6
   rw [Array.getD_eq_getD_getElem?] at q6
   clear hsz hdep hout hlat
   go_simp
   exact hK _ _ (hJ.plain HTY (by rw [hls]; decide) (Ex.refl _) (by rw [hT]; rfl) (no_head (by decide)))
  ·have dd7 := hdep ⟨1, .data⟩ (by simp) rfl
   have q7 := dd7.2 _ rfl _ rfl
   have h7 := hJ.vals 1 dd7.1 no_c
   rw [hT] at h7
   rw [show f 1 = .pointer (some ⟨D, 0, none⟩) from h7] at q7
   clear h7
   clear dd7
   rw [Array.getD_eq_getD_getElem?] at q7
   clear hsz hdep hout hlat
   go_simp
   exact hK _ _ (hJ.plain HTY (by rw [hls]; decide) (Ex.refl _) (by rw [hT]; rfl) (no_head (by decide)))
  ·have dd8 := hdep ⟨2, .data⟩ (by simp) rfl
   have q8 := dd8.2 _ rfl _ rfl
   have h8 := hJ.vals 2 dd8.1 no_c
   rw [hT] at h8
   rw [show f 2 = .pointer (some ⟨D, 0, none⟩) from h8] at q8
   clear h8
   clear dd8
   have c1 : w2.cell? ⟨D, 0, none⟩ = some (.slice ad n cap) := (HTB.out.ext hJ.ext.below).blk.cell 0
   rw [Array.getD_eq_getD_getElem?] at q8
   clear hsz hdep hout hlat
   go_simp
   exact hK _ _ (hJ.plain HTY (by rw [hls]; decide) (Ex.refl _) (by rw [hT]; rfl) (no_head (by decide)))
  ·have q3 := hout 3 (outB_spec (by kernel_rfl))
   exact ld_idb (.tmp 3) g id HID.out rfl q3 (B0.out.ext hJ.ext.below) (hK _ _ (hJ.plain HTY (by rw [hls]; decide) (Ex.refl _) (by rw [hT]; rfl) (no_head (by decide))))
  ·have dd9 := hdep ⟨3, .data⟩ (by simp) rfl
   have q9 := dd9.2 _ rfl _ rfl
   have h9 := hJ.vals 3 dd9.1 no_c
   rw [hT] at h9
   rw [show f 3 = .slice ad n cap from h9] at q9
   clear h9
   clear dd9
   have dd10 := hdep ⟨4, .data⟩ (by simp) rfl
   have q10 := dd10.2 _ rfl _ rfl
   have h10 := hJ.vals 4 dd10.1 no_c
   rw [hT] at h10
   rw [show f 4 = digV id from h10] at q10
   clear h10
   clear dd10
   rw [Array.getD_eq_getD_getElem?] at q9 q10
   have hin : Vp.In ad cap vs w2 := by
    obtain ⟨ad2, cap2, e2, h2⟩ := (HTB.out.ext hJ.ext.below).row.inn
    cases e2; exact h2
   clear hsz hdep hout hlat
   go_simp
   refine (CB.out w2 (Ex.trans BW.out hJ.ext.below) ad cap hin).mono ?_
   rintro e w3 ⟨p, b, rfl, z1, z2, z3, z4, x3⟩
   exact hK _ _ (hJ.plain HTY (by rw [hls]; decide) x3 (by rw [hT]; exact ⟨p, b, rfl, ⟨⟨z1, z2, z3⟩, bq_found z1 z2 z3 z4 HMN.out⟩⟩) (no_head (by decide)))
  ·have dd11 := hdep ⟨5, .data⟩ (by simp) rfl
   have q11 := dd11.2 _ rfl _ rfl
   have h11 := hJ.vals 5 dd11.1 no_c
   rw [hT] at h11
   have h11 : (fun v _ => ∃ (p : Nat) (b : Bool), v = .tuple #[.int .i64 p, .bool b] ∧ BQ n (idF vs) (idn id) p b) (f 5) w2 := h11
   obtain ⟨p11, b11, e11, z11⟩ := h11
   rw [e11] at q11
   clear dd11
   rw [Array.getD_eq_getD_getElem?] at q11
   clear hsz hdep hout hlat
   go_simp
   exact hK _ _ (hJ.plain HTY (by rw [hls]; decide) (Ex.refl _) (by rw [hT]; exact ⟨p11, rfl, z11.1⟩) (no_head (by decide)))
  ·have dd11 := hdep ⟨5, .data⟩ (by simp) rfl
   have q11 := dd11.2 _ rfl _ rfl
   have h11 := hJ.vals 5 dd11.1 no_c
   rw [hT] at h11
   have h11 : (fun v _ => ∃ (p : Nat) (b : Bool), v = .tuple #[.int .i64 p, .bool b] ∧ BQ n (idF vs) (idn id) p b) (f 5) w2 := h11
   obtain ⟨p11, b11, e11, z11⟩ := h11
   rw [e11] at q11
   clear dd11
   rw [Array.getD_eq_getD_getElem?] at q11
   clear hsz hdep hout hlat
   go_simp
   exact hK _ _ (hJ.plain HTY (by rw [hls]; decide) (Ex.refl _) (by rw [hT]; exact congrArg Value.bool z11.2) (no_head (by decide)))
  ·have dd12 := hdep ⟨6, .data⟩ (by simp) rfl
   have q12 := dd12.2 _ rfl _ rfl
   have h12 := hJ.vals 6 dd12.1 no_c
   rw [hT] at h12
   have h12 : (fun v _ => ∃ (p : Nat), v = .int .i64 p ∧ BI n (idF vs) (idn id) p) (f 6) w2 := h12
   obtain ⟨p12, e12, z12⟩ := h12
   rw [e12] at q12
   clear dd12
   rw [Array.getD_eq_getD_getElem?] at q12
   clear hsz hdep hout hlat
   go_simp
   exact hK _ _ (hJ.plain HTY (by rw [hls]; decide) (Ex.refl _) (by rw [hT]; exact ⟨p12, rfl, z12⟩) (no_head (by decide)))
  have dd13 := hdep ⟨7, .data⟩ (by simp) rfl
  have q13 := dd13.2 _ rfl _ rfl
  have h13 := hJ.vals 7 dd13.1 no_c
  rw [hT] at h13
  have h13 : (fun v _ => v = .bool (decide (∃ q, q < n ∧ idF vs q = idn id))) (f 7) w2 := h13
  rw [show f 7 = _ from h13] at q13
  clear dd13
  rw [Array.getD_eq_getD_getElem?] at q13
  clear hsz hdep hout hlat
  go_simp
  exact hK _ _ (hJ.plain HTY (by rw [hls]; decide) (Ex.refl _) (by rw [hT]; rfl) (no_head (by decide)))
 intro listed f w2 hall hJ
 have o8 := hJ.vals 8 (hall 8 (by simp)) no_c
 rw [hT] at o8
 have o8 : (fun v _ => ∃ (p : Nat), v = .int .i64 p ∧ BI n (idF vs) (idn id) p) (f 8) w2 := o8
 have o9 := hJ.vals 9 (hall 9 (by simp)) no_c
 rw [hT] at o9
 have o9 : (fun v _ => v = .bool (decide (∃ q, q < n ∧ idF vs q = idn id))) (f 9) w2 := o9
 have xk := hJ.ext
 simp only [putAll, Act.put, List.setIfInBounds_toArray, List.set_cons_zero, List.set_cons_succ, Nat.zero_add, Nat.reduceAdd]
 generalize f 8 = np at o8 ⊢
 generalize f 9 = nb at o9 ⊢
 clear hJ hall hT HTY
 have BX := Hi (Ex.trans BW.out (show Ex w1 w2 from xk.below))
 clear xk
 obtain ⟨p, rfl, hbi⟩ := o8
 rw [show nb = _ from o9]
 have HBI := Hi hbi
 clear hbi o9
 go_wp2_with fail
 go_ret2
 exact ⟨p, rfl, HBI.out, BX.out⟩
end Go.Proofs.Ytmjfnpmnhehnkaa
namespace Go.Proofs.Ytmjfnpmnhehnkaa
open Go.RowKit
def RowPost (c : List Vc) (w : World) (e : Ending) (w' : World) : Prop := ∃ (v : Value) (ys : List Vt), e = .returned v ∧ VRow w' w.heap.size v ys ∧ ys.map Vt.ct = c ∧ Ex w w'
set_option maxHeartbeats 4000000 in
set_option maxRecDepth 100000 in
theorem ownvs_any (ad : Option Addr) (cap : Nat) (xs : List Vt) (hL : xs.length ≤ 1000) (w : World) (hin : Vp.In ad cap xs w) (hvi : ∀ (i : Nat) (x : Vt), xs[i]? = some x → VI w x ∧ x.sec.l.length ≤ 64) : Calls Try.prog 104 #[.slice ad xs.length cap] w (RowPost (xs.map Vt.ct) w) := by
 have HIN := Hi hin
 have HVI := Hi hvi
 obtain ⟨n, hn⟩ : ∃ n, n = xs.length := ⟨_, rfl⟩
 rw [← hn] at hL ⊢
 have HN := Hi hn
 clear hn hin hvi
 go_enter Try.func104, Try.ntmps104
 go_wp2_with (first | ((with_reducible refine so4 [36, 1000+36, 32, 1000+32, 4000+36] ?_ ?_); (focus rfl)) | (with_reducible refine stop_bs (t := 37) ?_) | (with_reducible refine stop_app ?_))
 go_loopw [3, 8] (fun v i wr => ∃ (k : Nat) (ys : List Vt), k ≤ n ∧ i = .int .i64 k ∧ Hid (VRow wr w.heap.size v ys) ∧ Hid (ys.length = k ∧ ys.map Vt.ct = (xs.take k).map Vt.ct) ∧ Hid (Ex w wr)) (fun _ i _ => n - (intOf i).toNat)
 case atStart => exact ⟨0, [], by omega, rfl, Hi (VRow.nil _ _), Hi ⟨rfl, rfl⟩, Hi (Ex.refl _)⟩
 obtain ⟨k, ys, hk, rfl, VR, HY, BW⟩ := hrel
 by_cases hlt : k < n
 rotate_left
 ·obtain rfl : k = n := by omega
  have q1 : ¬ (k : Int) < (k : Int) := by omega
  go_wp2_with fail
  go_ret
  exact ⟨_, ys, rfl, VR.out, by rw [HY.out.2, HN.out, List.take_length], BW.out⟩
 have q0 : (0 : Int) ≤ (k : Int) := by omega
 have q1 : (k : Int) < (n : Int) := by omega
 obtain ⟨x, hx⟩ : ∃ x, xs[k]? = some x := ⟨_, List.getElem?_eq_getElem (by rw [← HN.out]; omega)⟩
 obtain ⟨ab, o, rfl, hab2, hra⟩ := (HIN.out.ext BW.out).read (by rw [← HN.out]; omega)
 have XR := Hi (hra k x hx)
 have XV := Hi (HVI.out k x hx)
 have HXK := Hi hx
 clear hra hab2 hx
 go_wp2_with (first | ((with_reducible refine so4 [36, 1000+36, 32, 1000+32, 4000+36] ?_ ?_); (focus rfl)) | (with_reducible refine stop_bs (t := 37) ?_) | (with_reducible refine stop_app ?_))
 refine at9 (by go_simp) fun K0 hK => ld_vr _ ab (o + k * 42) x XV.out.1.ok rfl rfl XR.out (hK _ _ ?_)
 clear hK
 go_wp2_with (first | ((with_reducible refine so4 [36, 1000+36, 32, 1000+32, 4000+36] ?_ ?_); (focus rfl)) | (with_reducible refine stop_bs (t := 37) ?_) | (with_reducible refine stop_app ?_))
 refine at9 (by go_simp) fun K0 hK => st_v _ _ wr.heap.size x rfl rfl rfl XV.out.1.ok (Bk.new rfl _ _) (by rfl) (fun w2 hd ho => hK _ _ ?_)
 clear hK
 have xx : Ex wr w2 := ho.below wr.heap.size (Nat.le_refl _) wr (Ex.alloc wr _)
 have HD := Hi hd
 replace BW := Hi (Ex.trans BW.out xx)
 replace VR := Hi (VR.out.ext xx)
 obtain ⟨g, hg⟩ : ∃ g, g = wr.heap.size := ⟨_, rfl⟩
 rw [← hg] at HD ⊢
 clear xx hd ho hg XR
 go_wp2_with (first | ((with_reducible refine so4 [36, 1000+36, 32, 1000+32, 4000+36] ?_ ?_); (focus rfl)) | (with_reducible refine stop_bs (t := 37) ?_) | (with_reducible refine stop_app ?_))
 refine at9 (by go_simp) fun K0 hK => ld_v _ g x rfl rfl HD.out (hK _ _ ?_)
 clear hK
 go_wp2_with (first | ((with_reducible refine so4 [36, 1000+36, 32, 1000+32, 4000+36] ?_ ?_); (focus rfl)) | (with_reducible refine stop_bs (t := 37) ?_) | (with_reducible refine stop_app ?_))
 refine (ownv_any x (Nat.le_trans XV.out.2 (by decide)) w2 (XV.out.1.ext BW.out)).mono ?_
 rintro e w3 ⟨p, rfl, hpl, hpn, x2⟩
 obtain ⟨z, hz⟩ : ∃ z : Vt, z = { x with sec := p } := ⟨_, rfl⟩
 have HZ : Hid (TVN w3 z) := Hi (by rw [hz]; exact ⟨⟨XV.out.1.ok.idN, XV.out.1.ok.gen0, XV.out.1.ok.gen1, XV.out.1.ok.pinN, XV.out.1.ok.lim0, XV.out.1.ok.lim1, XV.out.1.ok.used0, XV.out.1.ok.used1, XV.out.1.ok.ownN⟩, hpn.less (Nat.zero_le _), by rw [hpl]; exact XV.out.2⟩)
 have HZC : Hid (z.ct = x.ct) := Hi (by rw [hz]; unfold Vt.ct; simp only [hpl])
 rw [← hz]
 replace BW := Hi (Ex.trans BW.out x2)
 replace VR := Hi (VR.out.ext x2)
 clear hz hpl hpn x2 HD
 go_wp2_with (first | ((with_reducible refine so4 [36, 1000+36, 32, 1000+32, 4000+36] ?_ ?_); (focus rfl)) | (with_reducible refine stop_bs (t := 37) ?_) | (with_reducible refine stop_app ?_))
 refine at9 (by go_simp) fun K0 hK => wp_bsv _ z HZ.out.ok rfl rfl (hK _ _ ?_)
 clear hK
 have xa := Ex.alloc w3 (.cells z.C.toArray 36)
 have NB := Hi (Bk.new (g := w3.heap.size) (w := w3) rfl 36 z.C.toArray)
 replace HZ := Hi (HZ.out.ext xa)
 replace BW := Hi (Ex.trans BW.out xa)
 replace VR := Hi (VR.out.ext xa)
 generalize hw4 : w3.alloc (.cells z.C.toArray 36) = w4 at *
 obtain ⟨g2, hg⟩ : ∃ g, g = w3.heap.size := ⟨_, rfl⟩
 rw [← hg] at NB ⊢
 clear hw4 hg xa
 have MR := Hi (Many.rd (n := 1) (sz := 42) ⟨g2, rfl, NB.out⟩ (Vt.len HZ.out.ok))
 go_wp2_with (first | ((with_reducible refine so4 [36, 1000+36, 32, 1000+32, 4000+36] ?_ ?_); (focus rfl)) | (with_reducible refine stop_bs (t := 37) ?_) | (with_reducible refine stop_app ?_))
 obtain ⟨adx, ex, nx, rx⟩ := MR.out
 cases ex
 have RX := Hi rx
 clear rx nx MR
 refine at9 (by go_simp) fun K0 hK => wp_rd _ _ 37 36 zeroVt.V 42 96 rfl Try.underlying37 Try.infoVt rfl (by decide) w.heap.size ys.length _ _ rfl VR.out.row BW.out.sz' _ 1 1 _ rfl RX.out (Nat.le_refl _) (fun h => by cases h) (Vt.C_one z) (by have := HY.out.1; omega) (by have := HY.out.1; omega) (fun v5 w5 r1 r2 => hK _ _ ?_)
 clear hK
 replace BW := Hi (show Ex w w5 from Below.trans (show Below w.heap.size w _ from BW.out) r2.below)
 replace VR := Hi (VR.out.app r2 r1 HZ.out)
 replace HY : Hid ((ys ++ [z]).length = k + 1 ∧ (ys ++ [z]).map Vt.ct = (xs.take (k + 1)).map Vt.ct) := Hi ⟨by rw [List.length_append, HY.out.1]; rfl, by rw [List.map_append, HY.out.2, List.take_add_one, HXK.out, List.map_append]; simp [HZC.out]⟩
 clear r1 r2
 go_wp2_with (first | ((with_reducible refine so4 [36, 1000+36, 32, 1000+32, 4000+36] ?_ ?_); (focus rfl)) | (with_reducible refine stop_bs (t := 37) ?_) | (with_reducible refine stop_app ?_))
 (first | (refine ⟨?_, ?measure⟩; (repeat apply Exists.intro); refine ⟨?rel, rfl⟩) | refine ⟨?rel, ?measure⟩)
 case rel => exact ⟨k + 1, ys ++ [z], by omega, by go_num, VR, HY, BW⟩
 case measure => simp [intOf]; omega
set_option maxHeartbeats 4000000 in
set_option maxRecDepth 100000 in
theorem tall_any (D : Nat) (rv : Value) (vs : List Vt) (w : World) (h : TB w D rv vs) : Calls Try.prog 63 #[.pointer (some ⟨D, 0, none⟩)] w (RowPost (vs.map Vt.ct) w) := by
 obtain ⟨ad, cap, rfl, hin⟩ := h.row.inn
 have CO := Hi (ownvs_any ad cap vs (Nat.le_trans h.len (by decide)) w hin (fun i x hx => ⟨(h.row.ins i x hx).vi, (h.row.ins i x hx).len⟩))
 have c0 : w.cell? ⟨D, 0, none⟩ = some (.slice ad vs.length cap) := h.blk.cell 0
 clear h hin
 generalize vs.length = n at *
 go_enter Try.func63, Try.ntmps63
 go_wp2_with (first | ((with_reducible refine so4 [36, 1000+36, 32, 1000+32, 4000+36] ?_ ?_); (focus rfl)) | (with_reducible refine stop_bs (t := 37) ?_) | (with_reducible refine stop_app ?_))
 refine CO.out.mono ?_
 rintro e w1 ⟨v, ys, rfl, h1, h2, h3⟩
 have H1 := Hi h1
 have H2 := Hi h2
 have H3 := Hi h3
 clear h1 h2 h3 c0
 go_wp2_with fail
 go_ret
 exact ⟨_, ys, rfl, H1.out, H2.out, H3.out⟩
def GetPost (n : Nat) (vs : List Vt) (X : Nat) (w : World) (e : Ending) (w' : World) : Prop := ∃ (x : Vt) (b : Bool), e = .returned (.tuple #[x.V, .bool b]) ∧ b = decide (∃ q, q < n ∧ idF vs q = X) ∧ (b = true → ∃ q y, vs[q]? = some y ∧ idF vs q = X ∧ x.ct = y.ct) ∧ (b = false → x.ct = zeroVc) ∧ TVN w' x ∧ Ex w w'
set_option maxHeartbeats 4000000 in
set_option maxRecDepth 100000 in
theorem tget_any (D : Nat) (rv : Value) (vs : List Vt) (id : List UInt8) (w : World) (h : TB w D rv vs) (hid : id.length = 4) : Calls Try.prog 71 #[.pointer (some ⟨D, 0, none⟩), digV id] w (GetPost vs.length vs (idn id) w) := by
 obtain ⟨ds, hds⟩ : ∃ ds, ds = (Lib.byteCells id).toArray := ⟨_, rfl⟩
 have B0 : Hid (Bk ((w.alloc (.cells ds 32)).alloc (.cells zeroVt.C.toArray 36)) w.heap.size 32 (Lib.byteCells id).toArray) := Hi (by rw [hds]; exact (Bk.new rfl _ _).more _)
 have Z0 : Hid (VB ((w.alloc (.cells ds 32)).alloc (.cells zeroVt.C.toArray 36)) (w.heap.size + 1) zeroVt) := Hi ⟨zeroVt_ok, Bk.new (by simp) _ _⟩
 have BW : Hid (Ex w ((w.alloc (.cells ds 32)).alloc (.cells zeroVt.C.toArray 36))) := Hi (Ex.trans (Ex.alloc w _) (Ex.alloc _ _))
 have HTB := Hi (h.ext BW.out)
 obtain ⟨ad, cap, rfl, _⟩ := h.row.inn
 have HID := Hi hid
 have HMN := Hi h.mono
 rw [show (Calls Try.prog 71 #[.pointer (some ⟨D, 0, none⟩), digV id] w) = (Calls Try.prog 71 #[.pointer (some ⟨D, 0, none⟩), .agg ds] w) by rw [hds]; rfl]
 obtain ⟨n, hn⟩ : ∃ n, n = vs.length := ⟨_, rfl⟩
 rw [← hn] at HTB HMN ⊢
 have HN := Hi hn
 clear hds hid h hn
 go_enter Try.func71, Try.ntmps71
 go_wp2_with (first | ((with_reducible refine so4 [36, 1000+36, 32, 1000+32, 4000+36] ?_ ?_); (focus rfl)) | (with_reducible refine stop_bs (t := 37) ?_) | (with_reducible refine stop_app ?_))
 (with_reducible refine ⟨?_⟩)
 change wpList _ _ _ _ _ ((w.alloc (.cells ds 32)).alloc (.cells zeroVt.C.toArray 36))
 generalize hw1 : ((w.alloc (.cells ds 32)).alloc (.cells zeroVt.C.toArray 36)) = w1 at *
 clear hw1
 obtain ⟨g, hg⟩ : ∃ g, g = w.heap.size := ⟨_, rfl⟩
 have HG := Hi hg
 rw [← hg] at B0 Z0 ⊢
 clear hg
 (with_reducible refine at_any ?_ ?_); (focus go_simp); refine fun K0 hK => ld_idb _ g id HID.out rfl rfl B0.out (hK _ _ ?_)
 clear hK
 go_wp2_with (first | ((with_reducible refine so4 [36, 1000+36, 32, 1000+32, 4000+36] ?_ ?_); (focus rfl)) | (with_reducible refine stop_bs (t := 37) ?_) | (with_reducible refine stop_app ?_))
 have CF := find_any D (.slice ad n cap) vs id w1 HTB.out HID.out
 rw [← HN.out] at CF
 refine CF.mono ?_
 rintro e w2 ⟨p, rfl, hbi, x2⟩
 clear CF
 have HBI := Hi hbi
 obtain ⟨b, hb⟩ : ∃ b, b = decide (∃ q, q < n ∧ idF vs q = idn id) := ⟨_, rfl⟩
 rw [← hb]
 have HB := Hi hb
 replace HTB := Hi (HTB.out.ext x2)
 replace Z0 := Hi (Z0.out.ext x2)
 replace BW := Hi (Ex.trans BW.out x2)
 clear hbi hb x2
 cases b
 ·skip
  go_wp2_with (first | ((with_reducible refine so4 [36, 1000+36, 32, 1000+32, 4000+36] ?_ ?_); (focus rfl)) | (with_reducible refine stop_bs (t := 37) ?_) | (with_reducible refine stop_app ?_))
  refine at9 (by go_simp) fun K0 hK => wp_build _ _ rfl _ built_zero (hK _ _ ?_)
  clear hK
  go_wp2_with (first | ((with_reducible refine so4 [36, 1000+36, 32, 1000+32, 4000+36] ?_ ?_); (focus rfl)) | (with_reducible refine stop_bs (t := 37) ?_) | (with_reducible refine stop_app ?_))
  refine at9 (by go_simp) fun K0 hK => st_v _ _ (g + 1) zeroVt rfl rfl rfl zeroVt_ok Z0.out.2 (by rfl) (fun w3 hd ho => hK _ _ ?_)
  clear hK
  have BX := Hi (ho.below w.heap.size (by have := HG.out; omega) w BW.out)
  have HD := Hi hd
  clear hd ho
  go_wp2_with fail
  exact bodyPost_ret (res_v2 rfl _ _ (g + 1) rfl zeroVt HD.out) rfl ⟨zeroVt, false, rfl, HB.out, (fun h => by cases h), fun _ => rfl, ⟨zeroVt_ok, nilB_pn _ _, by decide⟩, BX.out⟩
 have hex : ∃ q, q < n ∧ idF vs q = idn id := of_decide_eq_true HB.out.symm
 have hpp : p < n ∧ idF vs p = idn id := by
  obtain ⟨q, hq1, hq2⟩ := hex
  obtain ⟨z1, z2, z3⟩ := HBI.out
  have hpq : p ≤ q := by
   rcases Nat.lt_or_ge q p with h | h
   ·have := z2 q h; omega
   ·exact h
  have h3 := z3 p (Nat.le_refl _) (by omega)
  have h4 := HMN.out p q hpq hq1
  exact ⟨by omega, by omega⟩
 clear hex
 obtain ⟨hpn, hpf⟩ := hpp
 have HPF := Hi hpf
 have q0 : (0 : Int) ≤ (p : Int) := by omega
 have q1 : (p : Int) < (n : Int) := by omega
 clear hpf
 obtain ⟨x, hx⟩ : ∃ x, vs[p]? = some x := ⟨_, List.getElem?_eq_getElem (by rw [← HN.out]; omega)⟩
 have XV := Hi (HTB.out.row.ins p x hx)
 obtain ⟨ad2, cap2, e2, hin⟩ := HTB.out.row.inn
 rw [← HN.out] at e2
 cases e2
 obtain ⟨ab, o, rfl, hab2, hra⟩ := hin.read (by rw [← HN.out]; omega)
 have XR := Hi (hra p x hx)
 have HXK := Hi hx
 have c0 : w2.cell? ⟨D, 0, none⟩ = some (.slice (some ⟨ab, o, none⟩) n cap) := HTB.out.blk.cell 0
 clear hra hab2 hx hin
 go_wp2_with (first | ((with_reducible refine so4 [36, 1000+36, 32, 1000+32, 4000+36] ?_ ?_); (focus rfl)) | (with_reducible refine stop_bs (t := 37) ?_) | (with_reducible refine stop_app ?_))
 refine at9 (by go_simp) fun K0 hK => ld_vr _ ab (o + p * 42) x XV.out.ok rfl rfl XR.out (hK _ _ ?_)
 clear hK
 go_wp2_with (first | ((with_reducible refine so4 [36, 1000+36, 32, 1000+32, 4000+36] ?_ ?_); (focus rfl)) | (with_reducible refine stop_bs (t := 37) ?_) | (with_reducible refine stop_app ?_))
 refine (ownv_any x (Nat.le_trans XV.out.len (by decide)) w2 XV.out.vi).mono ?_
 rintro e w3 ⟨s, rfl, hpl, hps, x2⟩
 obtain ⟨z, hz⟩ : ∃ z : Vt, z = { x with sec := s } := ⟨_, rfl⟩
 have HZ : Hid (TVN w3 z) := Hi (by rw [hz]; exact ⟨⟨XV.out.ok.idN, XV.out.ok.gen0, XV.out.ok.gen1, XV.out.ok.pinN, XV.out.ok.lim0, XV.out.ok.lim1, XV.out.ok.used0, XV.out.ok.used1, XV.out.ok.ownN⟩, hps.less (Nat.zero_le _), by rw [hpl]; exact XV.out.len⟩)
 have HZC : Hid (z.ct = x.ct) := Hi (by rw [hz]; unfold Vt.ct; simp only [hpl])
 rw [← hz]
 replace BW := Hi (Ex.trans BW.out x2)
 replace Z0 := Hi (Z0.out.ext x2)
 clear hz hpl hps x2 c0
 go_wp2_with (first | ((with_reducible refine so4 [36, 1000+36, 32, 1000+32, 4000+36] ?_ ?_); (focus rfl)) | (with_reducible refine stop_bs (t := 37) ?_) | (with_reducible refine stop_app ?_))
 refine at9 (by go_simp) fun K0 hK => st_v _ _ (g + 1) z rfl rfl rfl HZ.out.ok Z0.out.2 (by rfl) (fun w4 hd ho => hK _ _ ?_)
 clear hK
 have BX := Hi (ho.below w.heap.size (by have := HG.out; omega) w BW.out)
 have HD := Hi hd
 have HZ4 := Hi (show TVN w4 z from ⟨HZ.out.ok, HZ.out.sec.onlyT ho Z0.out.2 (by decide), HZ.out.len⟩)
 clear hd ho
 go_wp2_with fail
 exact bodyPost_ret (res_v2 rfl _ _ (g + 1) rfl z HD.out) rfl ⟨z, true, rfl, HB.out, (fun _ => ⟨p, x, HXK.out, HPF.out, HZC.out⟩), (fun h => by cases h), HZ4.out, BX.out⟩
end Go.Proofs.Ytmjfnpmnhehnkaa
