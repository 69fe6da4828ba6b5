/- tables: New, Len, find, All, Get, Fill; rows of vaults of one's own -/
import Derived.Test.YtmjfnpmnhehnkaaTb
namespace Go.Proofs.Ytmjfnpmnhehnkaa
open Go.RowKit
section
variable {P : Program} {ops : Array Oper} {rest : List Oper} {d : Option Tmp} {t2 : TypeId} {pos : String} {af : Array Edge} {g : Option (Nat × Bool)} {a : Act} {w : World} {Q : Exit → Act → World → Prop}
theorem stop_bs {t : TypeId} {n : Nat} {fs : Array (Nat × Operand)} (k : Stop (wpList P ops Q ({ dst := d, op := .buildSlice t n fs, type := t2, pos := pos, after := af, guard := g } :: rest) a w)) : wpList P ops Q ({ dst := d, op := .buildSlice t n fs, type := t2, pos := pos, after := af, guard := g } :: rest) a w := k.go
theorem stop_app {x y : Operand} {ts : Array TypeId} (k : Stop (wpList P ops Q ({ dst := d, op := .call { callee := .builtin .append, args := #[x, y], argTypes := ts }, type := t2, pos := pos, after := af, guard := g } :: rest) a w)) : wpList P ops Q ({ dst := d, op := .call { callee := .builtin .append, args := #[x, y], argTypes := ts }, type := t2, pos := pos, after := af, guard := g } :: rest) a w := k.go
end
set_option maxRecDepth 100000 in
theorem wp_bsv {o : Oper} {a : Act} {w : World} {K : Act → World → Prop} {Q : Exit → Act → World → Prop} (y : Operand) (x : Vt) (hx : x.Ok) (ho : o.op = .buildSlice 37 1 #[(0, y)]) (hy : a.eval y = x.V)
  (hk : K (a.put o.dst (.slice (some ⟨w.heap.size, 0, none⟩) 1 1)) (w.alloc (.cells x.C.toArray 36))) : o.wp Try.prog a w K Q := by
 have h1 := hx.idN; have h2 := hx.pinN; have h3 := hx.ownN
 obtain ⟨id, gen, pin, ⟨ad, cap, sec⟩, lim, used, own, gone, wiped⟩ := x
 obtain ⟨i0, i1, i2, i3, rfl⟩ := len4 h1
 obtain ⟨p0, p1, p2, p3, p4, p5, p6, p7, p8, p9, p10, p11, p12, p13, p14, p15, rfl⟩ := len16 h2
 obtain ⟨o0, o1, o2, o3, o4, o5, o6, o7, o8, o9, o10, o11, o12, o13, o14, o15, rfl⟩ := len16 h3
 have hy : a.eval y = .agg #[.int .u8 i0.toNat, .int .u8 i1.toNat, .int .u8 i2.toNat, .int .u8 i3.toNat, .int .u64 gen, .int .u8 p0.toNat, .int .u8 p1.toNat, .int .u8 p2.toNat, .int .u8 p3.toNat, .int .u8 p4.toNat, .int .u8 p5.toNat, .int .u8 p6.toNat, .int .u8 p7.toNat, .int .u8 p8.toNat, .int .u8 p9.toNat, .int .u8 p10.toNat, .int .u8 p11.toNat, .int .u8 p12.toNat, .int .u8 p13.toNat, .int .u8 p14.toNat, .int .u8 p15.toNat, .slice ad sec.length cap, .int .i64 lim, .int .i64 used, .int .u8 o0.toNat, .int .u8 o1.toNat, .int .u8 o2.toNat, .int .u8 o3.toNat, .int .u8 o4.toNat, .int .u8 o5.toNat, .int .u8 o6.toNat, .int .u8 o7.toNat, .int .u8 o8.toNat, .int .u8 o9.toNat, .int .u8 o10.toNat, .int .u8 o11.toNat, .int .u8 o12.toNat, .int .u8 o13.toNat, .int .u8 o14.toNat, .int .u8 o15.toNat, .bool gone, .bool wiped] := hy
 unfold Oper.wp
 obtain ⟨ev, hev⟩ : ∃ ev, ev = a.eval := ⟨_, rfl⟩
 rw [← hev] at hy ⊢
 clear hev
 unfold execOp
 simp only [ho]
 simp [hy, go_sem]
 go_simp
 exact hk
theorem vflat_len : ∀ (l : List Vt) (_ : ∀ (i : Nat) (x : Vt), l[i]? = some x → x.Ok), (l.flatMap Vt.C).length = l.length * 42
 | [], _ => rfl
 | x :: r, H => by rw [List.flatMap_cons, List.length_append, vflat_len r (fun k z hz => H (k + 1) z (by simpa using hz)), Vt.len (H 0 x rfl), List.length_cons]; omega
theorem vflat_at : ∀ (l : List Vt) (_ : ∀ (i : Nat) (x : Vt), l[i]? = some x → x.Ok) (i j : Nat) (x : Vt), l[i]? = some x → j < 42 → (l.flatMap Vt.C)[i * 42 + j]? = x.C[j]?
 | [], _, _, _, _, h, _ => by simp at h
 | y :: r, H, 0, j, x, h, hj => by
  obtain rfl : y = x := by simpa using h
  rw [List.flatMap_cons, List.getElem?_append_left (by rw [Vt.len (H 0 y rfl)]; omega)]
  congr 1; omega
 | y :: r, H, i + 1, j, x, h, hj => by
  have hy := Vt.len (H 0 y rfl)
  rw [List.flatMap_cons, List.getElem?_append_right (by omega), hy, show (i + 1) * 42 + j - 42 = i * 42 + j by omega]
  exact vflat_at r (fun k z hz => H (k + 1) z (by simpa using hz)) i j x (by simpa using h) hj
theorem Vt.C_one (x : Vt) : ∀ u ∈ x.C, u.oneCell' = true := by
 have := x.ones
 rw [List.all_toArray] at this
 exact List.all_eq_true.1 this
theorem vflat_one (ls : List Vt) : ∀ u ∈ ls.flatMap Vt.C, u.oneCell' = true := by
 intro u hu
 rw [List.mem_flatMap] at hu
 obtain ⟨x, _, hx⟩ := hu
 exact x.C_one u hx
theorem Try.infoVt : (Try.prog.info? 36).map (fun i => (i.zero, i.size, i.bytes)) = some (some zeroVt.V, 42, 96) := by kernel_rfl
/-- a vault whose secret lies in a block of bytes -/
structure TVN (w : World) (x : Vt) : Prop where
 ok : x.Ok
 sec : PN w 0 x.sec
 len : x.sec.l.length ≤ 64
theorem TVN.ext {w w' : World} {x : Vt} (h : TVN w x) (k : Ex w w') : TVN w' x := ⟨h.ok, h.sec.ext k, h.len⟩
theorem PN.kt {S : List Nat} {B B' : Nat} {w w' : World} {p : Pt} (h : PN w B' p) (k : Kt S B w w') (hs : 5 ∉ S) : PN w' B' p := by
 refine ⟨⟨h.1.cap, h.1.nil, fun h0 => ?_⟩, fun a e => ⟨(h.2 a e).1, (h.2 a e).2.elim fun cs hc => ⟨cs, k.bk hc hs⟩⟩⟩
 obtain ⟨a, o, e, hB, hc⟩ := h.1.read h0
 obtain ⟨_, cs, hb⟩ := h.2 _ e
 refine ⟨a, o, e, Nat.lt_of_lt_of_le hB k.size, fun i hi => ?_⟩
 rw [← hc i hi]
 have h2 := k.bk hb hs
 unfold Bk at hb h2
 simp only [World.cell?, h2, hb]
theorem TVN.kt {S : List Nat} {B : Nat} {w w' : World} {x : Vt} (h : TVN w x) (k : Kt S B w w') (hs : 5 ∉ S) : TVN w' x := ⟨h.ok, h.sec.kt k hs, h.len⟩
theorem TVN.vi {w : World} {x : Vt} (h : TVN w x) : VI w x := ⟨h.ok, h.sec.1⟩
/-- a row of vaults of one's own -/
structure VRow (w : World) (B : Nat) (v : Value) (xs : List Vt) : Prop where
 row : w.ownsRow B 36 42 v xs.length (xs.flatMap Vt.C)
 ins : ∀ (i : Nat) (x : Vt), xs[i]? = some x → TVN w x
theorem VRow.nil (w : World) (B : Nat) : VRow w B (.slice none 0 0) [] := ⟨World.ownsRow_nil _ _ _ _, fun i x hx => by simp at hx⟩
theorem VRow.ext {w w' : World} {B : Nat} {v : Value} {xs : List Vt} (h : VRow w B v xs) (k : Ex w w') : VRow w' B v xs := ⟨k.row h.row, fun i x hx => (h.ins i x hx).ext k⟩
theorem VRow.less {w : World} {B B' : Nat} {v : Value} {xs : List Vt} (h : VRow w B v xs) (k : B' ≤ B) : VRow w B' v xs := ⟨rown_less h.row k, h.ins⟩
theorem VRow.inn {w : World} {B : Nat} {v : Value} {xs : List Vt} (h : VRow w B v xs) : ∃ ad cap, v = .slice ad xs.length cap ∧ Vp.In ad cap xs w := by
 have hok : ∀ (i : Nat) (x : Vt), xs[i]? = some x → x.Ok := fun i x hx => (h.ins i x hx).ok
 obtain ⟨⟨h1, ⟨hv, h0⟩ | ⟨g, cap, cur, rfl, hb, hh, hc, hm, hs, ht⟩⟩, hin⟩ := h
 ·exact ⟨none, 0, by rw [h0]; exact hv, ⟨by rw [h0]; exact Nat.le_refl 0, fun _ => rfl, hok, fun h => by omega⟩⟩
 ·refine ⟨some ⟨g, 0, none⟩, cap, rfl, ⟨hc, (fun h => by cases h), hok, fun _ => ⟨g, 0, rfl, (show Bk w g 36 cur from hh).lt, fun i x hx j u hu => ?_⟩⟩⟩
  have hil : i < xs.length := (List.getElem?_eq_some_iff.1 hx).1
  have hj : j < 42 := by have := (List.getElem?_eq_some_iff.1 hu).1; rw [Vt.len (hok i x hx)] at this; exact this
  have h3 := vflat_at xs hok i j x hx hj
  rw [← ht, hu, List.getElem?_take, if_pos (by omega)] at h3
  rw [(show Bk w g 36 cur from hh).cell, Nat.zero_add, ← Array.getElem?_toList]
  exact h3
theorem VRow.app {w w2 : World} {B : Nat} {v v' : Value} {xs : List Vt} {z : Vt} (h : VRow w B v xs) (k : Kt [36] B w w2) (hr : w2.ownsRow B 36 42 v' (xs.length + 1) (xs.flatMap Vt.C ++ z.C)) (hz : TVN w z) : VRow w2 B v' (xs ++ [z]) :=
 ⟨by rw [List.length_append, List.flatMap_append]; simpa using hr, fun i x hx => by
  rcases List.mem_append.1 (List.mem_of_getElem? hx) with h1 | h1
  ·obtain ⟨j, hj, e⟩ := List.getElem_of_mem h1
   exact (h.ins j x (by rw [List.getElem?_eq_getElem hj, e])).kt k (by decide)
  ·rw [List.mem_singleton.1 h1]; exact hz.kt k (by decide)⟩
def idF (vs : List Vt) (i : Nat) : Nat := idn (vs.getD i zeroVt).id
theorem idF_at (vs : List Vt) (i : Nat) (x : Vt) (h : vs[i]? = some x) : idF vs i = idn x.id := by unfold idF; rw [List.getD_eq_getElem?_getD, h]; rfl
/-- a table: its block, its row, which rises -/
structure TB (w : World) (T : Nat) (rv : Value) (vs : List Vt) : Prop where
 blk : Bk w T 169 #[rv]
 row : VRow w (T + 1) rv vs
 len : vs.length ≤ 4
 srt : ∀ i j, i < j → j < vs.length → idF vs i < idF vs j
theorem TB.ext {w w' : World} {T : Nat} {rv : Value} {vs : List Vt} (h : TB w T rv vs) (k : Ex w w') : TB w' T rv vs := ⟨h.blk.ext k, h.row.ext k, h.len, h.srt⟩
theorem TB.mono {w : World} {T : Nat} {rv : Value} {vs : List Vt} (h : TB w T rv vs) : ∀ i j, i ≤ j → j < vs.length → idF vs i ≤ idF vs j := fun i j hij hj => by
 rcases Nat.eq_or_lt_of_le hij with e | e
 ·rw [e]; exact Nat.le_refl _
 ·exact Nat.le_of_lt (h.srt i j e hj)
set_option maxHeartbeats 4000000 in
set_option maxRecDepth 100000 in
theorem tnew_any (w : World) : Calls Try.prog 58 #[] w fun e w' => ∃ D, e = .returned (.pointer (some ⟨D, 0, none⟩)) ∧ w.heap.size ≤ D ∧ TB w' D (.slice none 0 0) [] ∧ Ex w w' := by
 go_enter Try.func58, Try.ntmps58
 go_wp2_with fail
 go_ret
 exact ⟨w.heap.size, rfl, Nat.le_refl _, ⟨Bk.new rfl _ _, VRow.nil _ _, by decide, fun i j _ hj => absurd hj (Nat.not_lt_zero j)⟩, Ex.alloc _ _⟩
set_option maxHeartbeats 4000000 in
set_option maxRecDepth 100000 in
theorem tlen_any (D : Nat) (rv : Value) (vs : List Vt) (w : World) (h : TB w D rv vs) : Calls Try.prog 79 #[.pointer (some ⟨D, 0, none⟩)] w fun e w' => e = .returned (.int .i64 vs.length) ∧ w = w' := by
 obtain ⟨ad, cap, rfl, _⟩ := h.row.inn
 have c0 : w.cell? ⟨D, 0, none⟩ = some (.slice ad vs.length cap) := h.blk.cell 0
 clear h
 generalize vs.length = n at *
 go_enter Try.func79, Try.ntmps79
 go_wp2_with fail
 go_ret
 exact ⟨rfl, rfl⟩
/-- where an ID is, or would be -/
def BI (n : Nat) (F : Nat → Nat) (X p : Nat) : Prop := p ≤ n ∧ (∀ q, q < p → F q < X) ∧ (∀ q, p ≤ q → q < n → X ≤ F q)
def BQ (n : Nat) (F : Nat → Nat) (X p : Nat) (b : Bool) : Prop := BI n F X p ∧ b = decide (∃ q, q < n ∧ F q = X)
theorem bq_found {n : Nat} {F : Nat → Nat} {X p : Nat} {b : Bool} (z1 : p ≤ n) (z2 : ∀ q, q < p → F q < X) (z3 : ∀ q, p ≤ q → q < n → X ≤ F q) (z4 : b = decide (p < n ∧ F p = X)) (hm : ∀ i j, i ≤ j → j < n → F i ≤ F j) : b = decide (∃ q, q < n ∧ F q = X) := by
 rw [z4]
 congr 1
 apply propext
 refine ⟨fun ⟨h1, h2⟩ => ⟨p, h1, h2⟩, fun ⟨q, h1, h2⟩ => ?_⟩
 have hq : p ≤ q := by
  rcases Nat.lt_or_ge q p with h | h
  ·have := z2 q h; omega
  ·exact h
 have h3 := z3 p (Nat.le_refl _) (by omega)
 have h4 := hm p q hq h1
 exact ⟨by omega, by omega⟩
def FindPost (n : Nat) (F : Nat → Nat) (X : Nat) (w : World) (e : Ending) (w' : World) : Prop :=
 ∃ p : Nat, e = .returned (.tuple #[.int .i64 p, .bool (decide (∃ q, q < n ∧ F q = X))]) ∧ BI n F X p ∧ Ex w w'
set_option maxHeartbeats 4000000 in
set_option maxRecDepth 100000 in
theorem find_any (D : Nat) (rv : Value) (vs : List Vt) (id : List UInt8) (w : World) (h : TB w D rv vs) (hid : id.length = 4) : Calls Try.prog 100 #[.pointer (some ⟨D, 0, none⟩), digV id] w (FindPost vs.length (idF vs) (idn id) w) := by
 obtain ⟨ds, hds⟩ : ∃ ds, ds = (Lib.byteCells id).toArray := ⟨_, rfl⟩
 have B0 : Hid (Bk (w.alloc (.cells ds 32)) w.heap.size 32 (Lib.byteCells id).toArray) := Lib.hid (by rw [hds]; exact Bk.new rfl _ _)
 have BW : Hid (Ex w (w.alloc (.cells ds 32))) := Lib.hid (Ex.alloc w _)
 have CB := Lib.hid (fun (w1 : World) (k : Ex w w1) (ad : Option Addr) (cap : Nat) (hin : Vp.In ad cap vs w1) => bsf_any ad cap vs (idF vs) (idF_at vs) id w1 h.len hid hin h.mono)
 have HMN := Lib.hid h.mono
 have HTB := Lib.hid (h.ext BW.out)
 obtain ⟨ad, cap, rfl, _⟩ := h.row.inn
 have HID := Lib.hid hid
 rw [show (Calls Try.prog 100 #[.pointer (some ⟨D, 0, none⟩), digV id] w) = (Calls Try.prog 100 #[.pointer (some ⟨D, 0, none⟩), .agg ds] w) by rw [hds]; rfl]
 obtain ⟨n, hn⟩ : ∃ n, n = vs.length := ⟨_, rfl⟩
 rw [← hn] at HTB CB HMN ⊢
 have HN := Lib.hid hn
 clear hn
 clear hds hid h
 go_enter Try.func100, Try.ntmps100
 go_wp2_with fail
 change Code.wp _ _ _ _ (w.alloc (.cells ds 32))
 generalize hw1 : (w.alloc (.cells ds 32)) = w1 at *
 clear hw1
 obtain ⟨g, hg⟩ : ∃ g, g = w.heap.size := ⟨_, rfl⟩
 rw [← hg] at B0 ⊢
 clear hg
 obtain ⟨T, hT⟩ : ∃ T : List (Rw w1.heap.size), T = [.is (.pointer (some ⟨D, 0, none⟩)), .is (.pointer (some ⟨D, 0, none⟩)), .is (.pointer (some ⟨D, 0, none⟩)), .is (.slice ad n cap), .is (digV id), ⟨[], fun v _ => ∃ (p : Nat) (b : Bool), v = .tuple #[.int .i64 p, .bool b] ∧ BQ n (idF vs) (idn id) p b, fun _ _ _ _ h _ _ => h⟩, ⟨[], fun v _ => ∃ (p : Nat), v = .int .i64 p ∧ BI n (idF vs) (idn id) p, fun _ _ _ _ h _ _ => h⟩, ⟨[], fun v _ => v = .bool (decide (∃ q, q < n ∧ idF vs q = idn id)), fun _ _ _ _ h _ _ => h⟩, ⟨[], fun v _ => ∃ (p : Nat), v = .int .i64 p ∧ BI n (idF vs) (idn id) p, fun _ _ _ _ h _ _ => h⟩, ⟨[], fun v _ => v = .bool (decide (∃ q, q < n ∧ idF vs q = idn id)), fun _ _ _ _ h _ _ => h⟩] := ⟨_, rfl⟩
 have HTY : T.map Rw.tys = ([[], [], [], [], [], [], [], [], [], []] : List (List Nat)) := by rw [hT]; rfl
 refine wp_region_gen (JW w1.heap.size w1 [0] T ([[], [], [], [], [], [], [], [], [], []] : List (List Nat)) ([none, none, none, none, none, none, none, none, none, none] : List (Option Nat)) ([] : List (Nat × Nat)) 100000) (by kernel_rfl) (by kernel_rfl) (by kernel_rfl) (fitB_spec (by kernel_rfl)) (fun listed f h => JW.start (Nat.le_refl _) listed f h) ?_ ?_
 ·intro i o ho
  have hi : i < 10 := (Array.getElem?_eq_some_iff.1 ho).1
  have hi' : i = 0 ∨ i = 1 ∨ i = 2 ∨ i = 3 ∨ i = 4 ∨ i = 5 ∨ i = 6 ∨ i = 7 ∨ i = 8 ∨ i = 9 := by omega
  clear hi
  rcases hi' with rfl | rfl | rfl | rfl | rfl | rfl | rfl | rfl | rfl | rfl
  all_goals (simp only [List.getElem?_toArray, List.getElem?_cons_zero, List.getElem?_cons_succ, Option.some.injEq] at ho; subst ho; intro listed f a w2 hJ hsz hls hun hdep hout hlat)
  ·rw [if_pos (by rfl)]
   intro K hK
   have q0 := hout 0 (outB_spec (by kernel_rfl))
   have hord := no_ord 0 listed
   refine wp_mv _ rfl (hK _ _ ?_)
   rw [show a.eval (.tmp 0) = .pointer (some ⟨D, 0, none⟩) from q0]
   exact hJ.plain HTY (by rw [hls]; decide) (Ex.refl _) (by rw [hT]; rfl) hord
  ·rw [if_pos (by rfl)]
   intro K hK
   have dd6 := hdep ⟨0, .data⟩ (by simp) rfl
   have q6 := dd6.2 _ rfl _ rfl
   have h6 := hJ.vals 0 dd6.1 no_c
   rw [hT] at h6
   rw [show f 0 = .pointer (some ⟨D, 0, none⟩) from h6] at q6
   clear h6
   clear dd6
   have hord := no_ord 1 listed
   rw [Array.getD_eq_getD_getElem?] at q6
   clear hsz hdep hout hlat
   go_simp
   exact hK _ _ (hJ.plain HTY (by rw [hls]; decide) (Ex.refl _) (by rw [hT]; first | rfl | exact int_eq (by omega) | exact int_eq (by rw [IntKind.wrap_i64]; omega)) hord)
  ·rw [if_pos (by rfl)]
   intro K hK
   have dd7 := hdep ⟨1, .data⟩ (by simp) rfl
   have q7 := dd7.2 _ rfl _ rfl
   have h7 := hJ.vals 1 dd7.1 no_c
   rw [hT] at h7
   rw [show f 1 = .pointer (some ⟨D, 0, none⟩) from h7] at q7
   clear h7
   clear dd7
   have hord := no_ord 2 listed
   rw [Array.getD_eq_getD_getElem?] at q7
   clear hsz hdep hout hlat
   go_simp
   exact hK _ _ (hJ.plain HTY (by rw [hls]; decide) (Ex.refl _) (by rw [hT]; first | rfl | exact int_eq (by omega) | exact int_eq (by rw [IntKind.wrap_i64]; omega)) hord)
  ·rw [if_pos (by rfl)]
   intro K hK
   have dd8 := hdep ⟨2, .data⟩ (by simp) rfl
   have q8 := dd8.2 _ rfl _ rfl
   have h8 := hJ.vals 2 dd8.1 no_c
   rw [hT] at h8
   rw [show f 2 = .pointer (some ⟨D, 0, none⟩) from h8] at q8
   clear h8
   clear dd8
   have hord := no_ord 3 listed
   have c1 : w2.cell? ⟨D, 0, none⟩ = some (.slice ad n cap) := (HTB.out.ext hJ.ext.below).blk.cell 0
   rw [Array.getD_eq_getD_getElem?] at q8
   clear hsz hdep hout hlat
   go_simp
   exact hK _ _ (hJ.plain HTY (by rw [hls]; decide) (Ex.refl _) (by rw [hT]; rfl) hord)
  ·rw [if_pos (by rfl)]
   intro K hK
   have q3 := hout 3 (outB_spec (by kernel_rfl))
   have hord := no_ord 4 listed
   exact ld_idb (.tmp 3) g id HID.out rfl q3 (B0.out.ext hJ.ext.below) (hK _ _ (hJ.plain HTY (by rw [hls]; decide) (Ex.refl _) (by rw [hT]; rfl) hord))
  ·rw [if_pos (by rfl)]
   intro K hK
   have dd9 := hdep ⟨3, .data⟩ (by simp) rfl
   have q9 := dd9.2 _ rfl _ rfl
   have h9 := hJ.vals 3 dd9.1 no_c
   rw [hT] at h9
   rw [show f 3 = .slice ad n cap from h9] at q9
   clear h9
   clear dd9
   have dd10 := hdep ⟨4, .data⟩ (by simp) rfl
   have q10 := dd10.2 _ rfl _ rfl
   have h10 := hJ.vals 4 dd10.1 no_c
   rw [hT] at h10
   rw [show f 4 = digV id from h10] at q10
   clear h10
   clear dd10
   have hord := no_ord 5 listed
   rw [Array.getD_eq_getD_getElem?] at q9
   rw [Array.getD_eq_getD_getElem?] at q10
   have hin : Vp.In ad cap vs w2 := by
    obtain ⟨ad2, cap2, e2, h2⟩ := (HTB.out.ext hJ.ext.below).row.inn
    cases e2; exact h2
   clear hsz hdep hout hlat
   go_simp
   refine (CB.out w2 (Ex.trans BW.out hJ.ext.below) ad cap hin).mono ?_
   rintro e w3 ⟨p, b, rfl, z1, z2, z3, z4, x3⟩
   exact hK _ _ (hJ.plain HTY (by rw [hls]; decide) x3 (by rw [hT]; exact ⟨p, b, rfl, ⟨⟨z1, z2, z3⟩, bq_found z1 z2 z3 z4 HMN.out⟩⟩) hord)
  ·rw [if_pos (by rfl)]
   intro K hK
   have dd11 := hdep ⟨5, .data⟩ (by simp) rfl
   have q11 := dd11.2 _ rfl _ rfl
   have h11 := hJ.vals 5 dd11.1 no_c
   rw [hT] at h11
   have h11 : (fun v _ => ∃ (p : Nat) (b : Bool), v = .tuple #[.int .i64 p, .bool b] ∧ BQ n (idF vs) (idn id) p b) (f 5) w2 := h11
   obtain ⟨p11, b11, e11, z11⟩ := h11
   rw [e11] at q11
   clear dd11
   have hord := no_ord 6 listed
   rw [Array.getD_eq_getD_getElem?] at q11
   clear hsz hdep hout hlat
   go_simp
   exact hK _ _ (hJ.plain HTY (by rw [hls]; decide) (Ex.refl _) (by rw [hT]; exact ⟨p11, rfl, z11.1⟩) hord)
  ·rw [if_pos (by rfl)]
   intro K hK
   have dd11 := hdep ⟨5, .data⟩ (by simp) rfl
   have q11 := dd11.2 _ rfl _ rfl
   have h11 := hJ.vals 5 dd11.1 no_c
   rw [hT] at h11
   have h11 : (fun v _ => ∃ (p : Nat) (b : Bool), v = .tuple #[.int .i64 p, .bool b] ∧ BQ n (idF vs) (idn id) p b) (f 5) w2 := h11
   obtain ⟨p11, b11, e11, z11⟩ := h11
   rw [e11] at q11
   clear dd11
   have hord := no_ord 7 listed
   rw [Array.getD_eq_getD_getElem?] at q11
   clear hsz hdep hout hlat
   go_simp
   exact hK _ _ (hJ.plain HTY (by rw [hls]; decide) (Ex.refl _) (by rw [hT]; exact congrArg Value.bool z11.2) hord)
  ·rw [if_pos (by rfl)]
   intro K hK
   have dd12 := hdep ⟨6, .data⟩ (by simp) rfl
   have q12 := dd12.2 _ rfl _ rfl
   have h12 := hJ.vals 6 dd12.1 no_c
   rw [hT] at h12
   have h12 : (fun v _ => ∃ (p : Nat), v = .int .i64 p ∧ BI n (idF vs) (idn id) p) (f 6) w2 := h12
   obtain ⟨p12, e12, z12⟩ := h12
   rw [e12] at q12
   clear dd12
   have hord := no_ord 8 listed
   rw [Array.getD_eq_getD_getElem?] at q12
   clear hsz hdep hout hlat
   go_simp
   exact hK _ _ (hJ.plain HTY (by rw [hls]; decide) (Ex.refl _) (by rw [hT]; exact ⟨p12, rfl, z12⟩) hord)
  ·rw [if_pos (by rfl)]
   intro K hK
   have dd13 := hdep ⟨7, .data⟩ (by simp) rfl
   have q13 := dd13.2 _ rfl _ rfl
   have h13 := hJ.vals 7 dd13.1 no_c
   rw [hT] at h13
   have h13 : (fun v _ => v = .bool (decide (∃ q, q < n ∧ idF vs q = idn id))) (f 7) w2 := h13
   rw [show f 7 = _ from h13] at q13
   clear dd13
   have hord := no_ord 9 listed
   rw [Array.getD_eq_getD_getElem?] at q13
   clear hsz hdep hout hlat
   go_simp
   exact hK _ _ (hJ.plain HTY (by rw [hls]; decide) (Ex.refl _) (by rw [hT]; rfl) hord)
 ·intro listed f w2 hall hJ
  have o8 := hJ.vals 8 (hall 8 (by simp)) no_c
  rw [hT] at o8
  have o8 : (fun v _ => ∃ (p : Nat), v = .int .i64 p ∧ BI n (idF vs) (idn id) p) (f 8) w2 := o8
  have o9 := hJ.vals 9 (hall 9 (by simp)) no_c
  rw [hT] at o9
  have o9 : (fun v _ => v = .bool (decide (∃ q, q < n ∧ idF vs q = idn id))) (f 9) w2 := o9
  have xk := hJ.ext
  simp only [putAll, Act.put, List.setIfInBounds_toArray, List.set_cons_zero, List.set_cons_succ, Nat.zero_add, Nat.reduceAdd]
  generalize f 8 = np at o8 ⊢
  generalize f 9 = nb at o9 ⊢
  clear hJ hall hT HTY
  generalize f 0 = y0
  generalize f 1 = y1
  generalize f 2 = y2
  generalize f 3 = y3
  generalize f 4 = y4
  generalize f 5 = y5
  generalize f 6 = y6
  generalize f 7 = y7
  have BX := Lib.hid (Ex.trans BW.out (show Ex w1 w2 from xk.below))
  clear xk
  obtain ⟨p, rfl, hbi⟩ := o8
  rw [show nb = _ from o9]
  have HBI := Lib.hid hbi
  clear hbi o9
  go_wp2_with fail
  go_ret2
  exact ⟨p, rfl, HBI.out, BX.out⟩
end Go.Proofs.Ytmjfnpmnhehnkaa
