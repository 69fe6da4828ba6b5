/- SoA, Ud, Ue -/
import Derived.Test.YtmjfnpmnhehnkaaQau
import Derived.Test.YtmjfnpmnhehnkaaQaq
namespace Go.Proofs.Ytmjfnpmnhehnkaa.Sm
open Go.RowKit
theorem cons_of (n : Nat) (l : List UInt8) (h : l.length = n + 1) : ∃ x m, l = x :: m ∧ m.length = n := by
  cases l with
  | nil => cases h
  | cons x m => exact ⟨x, m, rfl, by simpa using h⟩
theorem len16 (l : List UInt8) (h : l.length = 16) : ∃ x0 x1 x2 x3 x4 x5 x6 x7 x8 x9 x10 x11 x12 x13 x14 x15 : UInt8, l = [x0, x1, x2, x3, x4, x5, x6, x7, x8, x9, x10, x11, x12, x13, x14, x15] := by
  obtain ⟨x0, l0, rfl, h0⟩ := cons_of 15 l h
  obtain ⟨x1, l1, rfl, h1⟩ := cons_of 14 l0 h0
  obtain ⟨x2, l2, rfl, h2⟩ := cons_of 13 l1 h1
  obtain ⟨x3, l3, rfl, h3⟩ := cons_of 12 l2 h2
  obtain ⟨x4, l4, rfl, h4⟩ := cons_of 11 l3 h3
  obtain ⟨x5, l5, rfl, h5⟩ := cons_of 10 l4 h4
  obtain ⟨x6, l6, rfl, h6⟩ := cons_of 9 l5 h5
  obtain ⟨x7, l7, rfl, h7⟩ := cons_of 8 l6 h6
  obtain ⟨x8, l8, rfl, h8⟩ := cons_of 7 l7 h7
  obtain ⟨x9, l9, rfl, h9⟩ := cons_of 6 l8 h8
  obtain ⟨x10, l10, rfl, h10⟩ := cons_of 5 l9 h9
  obtain ⟨x11, l11, rfl, h11⟩ := cons_of 4 l10 h10
  obtain ⟨x12, l12, rfl, h12⟩ := cons_of 3 l11 h11
  obtain ⟨x13, l13, rfl, h13⟩ := cons_of 2 l12 h12
  obtain ⟨x14, l14, rfl, h14⟩ := cons_of 1 l13 h13
  obtain ⟨x15, l15, rfl, h15⟩ := cons_of 0 l14 h14
  obtain rfl : l15 = [] := List.eq_nil_of_length_eq_zero h15
  exact ⟨_, _, _, _, _, _, _, _, _, _, _, _, _, _, _, _, rfl⟩
theorem digV_lit (x0 x1 x2 x3 x4 x5 x6 x7 x8 x9 x10 x11 x12 x13 x14 x15 : UInt8) : digV [x0, x1, x2, x3, x4, x5, x6, x7, x8, x9, x10, x11, x12, x13, x14, x15] = .agg #[.int .u8 x0.toNat, .int .u8 x1.toNat, .int .u8 x2.toNat, .int .u8 x3.toNat, .int .u8 x4.toNat, .int .u8 x5.toNat, .int .u8 x6.toNat, .int .u8 x7.toNat, .int .u8 x8.toNat, .int .u8 x9.toNat, .int .u8 x10.toNat, .int .u8 x11.toNat, .int .u8 x12.toNat, .int .u8 x13.toNat, .int .u8 x14.toNat, .int .u8 x15.toNat] := rfl
def shV (l : List UInt8) : Int := (((sumL l).getD 0 0).toNat : Int) % 16
theorem and15 (x : UInt8) : bits .and .u8 (x.toNat : Int) 15 = (x.toNat : Int) % 16 := by
  have := x.toNat_lt
  rw [u8_and _ _ (by omega) (by omega) (by omega) (by omega)]
  have e : ((15 : Int).toNat) = 15 := rfl
  rw [e, nat_mask4]; simp
theorem sumL_len (l : List UInt8) : (sumL l).length = 16 := rfl
set_option maxHeartbeats 4000000 in
set_option maxRecDepth 100000 in
theorem of_any (l : List UInt8) (hl : l.length = 4) (w : World) :
    Calls Try.prog 59 #[digV l] w fun e w' => e = .returned (.int .i64 (shV l)) ∧ Below w.heap.size w w' := by
  obtain ⟨cs, hcs⟩ : ∃ cs, cs = Lib.byteCells l := ⟨_, rfl⟩
  have hcl : cs.toArray.size = 4 := by rw [hcs]; simp [Lib.byteCells, hl]
  have hv : digV l = .agg cs.toArray := by rw [hcs]; rfl
  have G := sum_core l (some ⟨w.heap.size, 0, none⟩) w.heap.size 0 4 (by omega) (by omega) (w.alloc (.cells cs.toArray 32)) (fun _ => rfl) (by simp) (fun i hi => by
    have h := (Bk.new (w := w) rfl 32 cs.toArray).cell (0 + i)
    rw [h, Nat.zero_add, hcs]
    simp [Lib.byteCells, hi])
  rw [hl] at G
  obtain ⟨x0, x1, x2, x3, x4, x5, x6, x7, x8, x9, x10, x11, x12, x13, x14, x15, hx⟩ := len16 (sumL l) (sumL_len l)
  have hs : shV l = (x0.toNat : Int) % 16 := by unfold shV; rw [hx]; rfl
  rw [hx, digV_lit] at G
  have HS := Lib.hid hs
  have G := Lib.hid G
  rw [hv]
  clear hx hs hv hcs hl
  go_enter Try.func59, Try.ntmps59
  go_wp2_with fail
  refine G.out.mono ?_
  rintro e w1 ⟨rfl, b1⟩
  clear G
  have bw := ((Below.refl w.heap.size w).alloc (Nat.le_refl _) (.cells cs.toArray 32)).trans (b1.mono (by simp))
  have hz := bw.size
  go_wp2_with fail
  go_ret
  exact ⟨smret (congrArg (Value.int .i64) (by rw [and15 x0, IntWalk.wrap64_in _ ⟨by omega, by omega⟩]; exact HS.out.symm)), bw.alloc hz _⟩
set_option maxHeartbeats 4000000 in
set_option maxRecDepth 100000 in
theorem rof_any (l : List UInt8) (hl : l.length = 4) (w : World) :
    Calls Try.prog 33 #[digV l] w fun e w' => e = .returned (.int .i64 (shV l)) ∧ Below w.heap.size w w' := by
  obtain ⟨cs, hcs⟩ : ∃ cs, cs = Lib.byteCells l := ⟨_, rfl⟩
  have hcl : cs.toArray.size = 4 := by rw [hcs]; simp [Lib.byteCells, hl]
  have hv : digV l = .agg cs.toArray := by rw [hcs]; rfl
  have G := rsum_core l (some ⟨w.heap.size, 0, none⟩) w.heap.size 0 4 (by omega) (fun h => by cases h) (by omega) (w.alloc (.cells cs.toArray 32)) (fun _ => rfl) (by simp) (fun i hi => by
    have h := (Bk.new (w := w) rfl 32 cs.toArray).cell (0 + i)
    rw [h, Nat.zero_add, hcs]
    simp [Lib.byteCells, hi])
  rw [hl] at G
  obtain ⟨x0, x1, x2, x3, x4, x5, x6, x7, x8, x9, x10, x11, x12, x13, x14, x15, hx⟩ := len16 (sumL l) (sumL_len l)
  have hs : shV l = (x0.toNat : Int) % 16 := by unfold shV; rw [hx]; rfl
  rw [hx, digV_lit] at G
  have HS := Lib.hid hs
  have G := Lib.hid G
  rw [hv]
  clear hx hs hv hcs hl
  go_enter Try.func33, Try.ntmps33
  go_wp2_with fail
  refine G.out.mono ?_
  rintro e w1 ⟨rfl, b1⟩
  clear G
  have bw := ((Below.refl w.heap.size w).alloc (Nat.le_refl _) (.cells cs.toArray 32)).trans (b1.mono (by simp))
  have hz := bw.size
  go_wp2_with fail
  go_ret
  exact ⟨smret (congrArg (Value.int .i64) HS.out.symm), bw.alloc hz _⟩
end Go.Proofs.Ytmjfnpmnhehnkaa.Sm
namespace Go.Proofs.Ytmjfnpmnhehnkaa
open Go.RowKit
theorem shv_range (id : List UInt8) : ∃ s : Nat, Sm.shV id = (s : Int) ∧ s < 16 := by
 refine ⟨(Sm.shV id).toNat, ?_, ?_⟩ <;> unfold Sm.shV <;> omega
theorem iof_any (id : List UInt8) (hid : id.length = 4) (s : Nat) (hs : Sm.shV id = (s : Int)) (w : World) : Calls Try.prog 59 #[digV id] w fun e w' => e = .returned (.int .i64 s) ∧ Ex w w' := by
 refine (Sm.of_any id hid w).mono ?_
 rintro e w' ⟨rfl, h⟩
 exact ⟨by rw [hs], h⟩
/-- what Get of a table tells -/
def GetDet (vs : List Vt) (X : Nat) (c : Vc) (b : Bool) : Prop := b = decide (∃ q, q < vs.length ∧ idF vs q = X) ∧ (b = true → ∃ q y, vs[q]? = some y ∧ idF vs q = X ∧ c = y.ct) ∧ (b = false → c = zeroVc)
theorem get_det (vs : List Vt) (X : Nat) : ∃ c b, GetDet vs X c b := by
 by_cases h : ∃ q, q < vs.length ∧ idF vs q = X
 ·obtain ⟨q, hq, hx⟩ := h
  exact ⟨vs[q].ct, true, by symm; exact decide_eq_true ⟨q, hq, hx⟩, fun _ => ⟨q, vs[q], List.getElem?_eq_getElem hq, hx, rfl⟩, fun h => by cases h⟩
 exact ⟨zeroVc, false, by symm; exact decide_eq_false h, (fun h => by cases h), fun _ => rfl⟩
def IGet (c : Vc) (b : Bool) (w : World) (e : Ending) (w' : World) : Prop := ∃ x : Vt, e = .returned (.tuple #[x.V, .bool b]) ∧ x.ct = c ∧ TVN w' x ∧ Ex w w'
theorem tget_det {D : Nat} {rv : Value} {vs : List Vt} {c : Vc} {b : Bool} (id : List UInt8) (hid : id.length = 4) (hd : GetDet vs (idn id) c b) (w : World) (h : TB w D rv vs) : Calls Try.prog 71 #[.pointer (some ⟨D, 0, none⟩), digV id] w (IGet c b w) := by
 refine (tget_any D rv vs id w h hid).mono ?_
 rintro e w' ⟨x, b2, rfl, hb, h1, h2, hn, hx⟩
 obtain rfl : b2 = b := by rw [hb, hd.1]
 refine ⟨x, rfl, ?_, hn, hx⟩
 cases b2 with
 | false => rw [h2 rfl, hd.2.2 rfl]
 | true =>
  obtain ⟨q, y, e1, e2, e3⟩ := h1 rfl
  obtain ⟨q2, y2, f1, f2, f3⟩ := hd.2.1 rfl
  have l1 := (List.getElem?_eq_some_iff.1 e1).1
  have l2 := (List.getElem?_eq_some_iff.1 f1).1
  obtain rfl : q = q2 := by
   rcases Nat.lt_trichotomy q q2 with h9 | h9 | h9
   ·have := h.srt q q2 h9 l2; omega
   ·exact h9
   have := h.srt q2 q h9 l1; omega
  rw [e1] at f1; cases f1
  rw [e3, f3]
set_option maxHeartbeats 4000000 in
set_option maxRecDepth 100000 in
theorem iget_any (B M : Nat) (D : Nat → Nat) (r : Nat → Value) (v : Nat → List Vt) (id : List UInt8) (hid : id.length = 4) (s : Nat) (hs : Sm.shV id = (s : Int)) (hs16 : s < 16) (c : Vc) (b : Bool) (hdet : GetDet (v s) (idn id) c b) (w : World) (h : IM w B M D r v) : Calls Try.prog 73 #[.pointer (some ⟨M, 0, none⟩), digV id] w (IGet c b w) := by
 obtain ⟨ds, hds⟩ : ∃ ds, ds = (Lib.byteCells id).toArray := ⟨_, rfl⟩
 have B0 : Hid (Bk ((w.alloc (.cells ds 32)).alloc (.cells zeroVt.C.toArray 36)) w.heap.size 32 (Lib.byteCells id).toArray) := Lib.hid (by rw [hds]; exact (Bk.new rfl _ _).more _)
 have Z0 : Hid (VB ((w.alloc (.cells ds 32)).alloc (.cells zeroVt.C.toArray 36)) (w.heap.size + 1) zeroVt) := Lib.hid ⟨zeroVt_ok, Bk.new (by simp) _ _⟩
 have BW : Hid (Ex w ((w.alloc (.cells ds 32)).alloc (.cells zeroVt.C.toArray 36))) := Lib.hid (Ex.trans (Ex.alloc w _) (Ex.alloc _ _))
 have HIM := Lib.hid (h.ext BW.out)
 have HID := Lib.hid hid
 have HDT := Lib.hid hdet
 have HSH := Lib.hid hs
 rw [show (Calls Try.prog 73 #[.pointer (some ⟨M, 0, none⟩), digV id] w) = (Calls Try.prog 73 #[.pointer (some ⟨M, 0, none⟩), .agg ds] w) by rw [hds]; rfl]
 have q0 : (0 : Int) ≤ (s : Int) := by omega
 have q1 : (s : Int) < 16 := by omega
 clear hds hid h hdet hs
 go_enter Try.func73, Try.ntmps73
 go_wp2_with fail
 change Code.wp _ _ _ _ ((w.alloc (.cells ds 32)).alloc (.cells zeroVt.C.toArray 36))
 generalize hw1 : ((w.alloc (.cells ds 32)).alloc (.cells zeroVt.C.toArray 36)) = w1 at *
 clear hw1
 obtain ⟨g, hg⟩ : ∃ g, g = w.heap.size := ⟨_, rfl⟩
 have HG := Lib.hid hg
 rw [← hg] at B0 Z0 ⊢
 clear hg
 obtain ⟨T, hT⟩ : ∃ T : List Sx, T = [.is (.pointer (some ⟨M, 0, none⟩)), .is (digV id), .is (.int .i64 s), .is (.pointer (some ⟨M, 0, none⟩)), .is (.pointer (some ⟨M, 0, none⟩)), .is (.pointer (some ⟨M, s, none⟩)), .is (.pointer (some ⟨D s, 0, none⟩)), .is (digV id), .of (fun v9 w9 => ∃ x : Vt, v9 = .tuple #[x.V, .bool b] ∧ x.ct = c ∧ TVN w9 x) (fun v9 _ _ h k => by obtain ⟨x, h1, h2, h3⟩ := h; exact ⟨x, h1, h2, h3.ext k⟩), .of (fun v9 w9 => ∃ x : Vt, v9 = x.V ∧ x.ct = c ∧ TVN w9 x) (fun v9 _ _ h k => by obtain ⟨x, h1, h2, h3⟩ := h; exact ⟨x, h1, h2, h3.ext k⟩), .is (.bool b), .any, .is (.bool b)] := ⟨_, rfl⟩
 have HFX : T.map Sx.fixed = [true, true, true, true, true, true, true, true, false, false, true, true, true] := by rw [hT]; rfl
 have hFst : ∀ wa wb, (fun w9 => ∃ x : Vt, VB w9 (g + 1) x ∧ x.ct = c ∧ TVN w9 x ∧ Ex w w9) wa → Ex wa wb → (fun w9 => ∃ x : Vt, VB w9 (g + 1) x ∧ x.ct = c ∧ TVN w9 x ∧ Ex w w9) wb := fun _ _ h k9 => by obtain ⟨x, h1, h2, h3, h4⟩ := h; exact ⟨x, ⟨h1.1, h1.2.ext k9⟩, h2, h3.ext k9, Ex.trans h4 k9⟩
 refine wp_region_gen (JE w1 T ([none, none, none, none, none, none, none, none, some 11, some 11, none, none, none] : List (Option Nat)) ([(11, 1), (11, 6), (11, 7), (11, 8), (11, 9), (11, 10)] : List (Nat × Nat)) 11 11 (fun w9 => ∃ x : Vt, VB w9 (g + 1) x ∧ x.ct = c ∧ TVN w9 x ∧ Ex w w9)) (by kernel_rfl) (by kernel_rfl) (by kernel_rfl) (fitB_spec (by kernel_rfl)) (fun listed f h => JE.start listed f h) ?_ ?_
 ·intro i o ho
  have hi : i < 13 := (Array.getElem?_eq_some_iff.1 ho).1
  have hi' : i = 0 ∨ i = 1 ∨ i = 2 ∨ i = 3 ∨ i = 4 ∨ i = 5 ∨ i = 6 ∨ i = 7 ∨ i = 8 ∨ i = 9 ∨ i = 10 ∨ i = 11 ∨ i = 12 := by omega
  clear hi
  rcases hi' with rfl | rfl | rfl | rfl | rfl | rfl | rfl | rfl | rfl | rfl | rfl | rfl | rfl
  all_goals (simp only [List.getElem?_toArray, List.getElem?_cons_zero, List.getElem?_cons_succ, Option.some.injEq] at ho; subst ho; intro listed f a w3 hJ hsz hls hun hdep hout hlat; first | (rw [if_pos (by rfl)]; intro K hK) | skip)
  ·have q0 := hout 0 (outB_spec (by kernel_rfl))
   refine wp_mv _ rfl (hK _ _ ?_)
   rw [show a.eval (.tmp 0) = .pointer (some ⟨M, 0, none⟩) from q0]
   exact hJ.plain (by rw [hls]; decide) hFst (by decide) (Ex.refl _) (by rw [hT]; rfl) (no_head (by decide))
  ·have q3 := hout 3 (outB_spec (by kernel_rfl))
   have hcut : listed.getD 11 false = false := by
    cases hc : listed.getD 11 false with
    | false => rfl
    | true =>
     have hc0 := hJ.ord (11, 1) (by simp) hc
     exact absurd hc0 (by rw [hun]; decide)
   have hpre := hJ.pre hcut
   exact ld_idb (.tmp 3) g id HID.out rfl q3 (B0.out.ext hpre) (hK _ _ (hJ.plain (by rw [hls]; decide) hFst (by decide) (Ex.refl _) (by rw [hT]; rfl) (no_head (by decide))))
  ·have dd7 := hdep ⟨1, .data⟩ (by simp) rfl
   have q7 := dd7.2 _ rfl _ rfl
   have h7 := hJ.vals 1 dd7.1 no_c
   rw [hT] at h7
   rw [show f 1 = digV id from h7] at q7
   clear h7
   clear dd7
   rw [Array.getD_eq_getD_getElem?] at q7
   clear hsz hdep hout hlat
   go_simp
   refine (iof_any id HID.out s HSH.out w3).mono ?_
   rintro e w4 ⟨rfl, x4⟩
   exact hK _ _ (hJ.plain (by rw [hls]; decide) hFst (by decide) x4 (by rw [hT]; rfl) (no_head (by decide)))
  ·have dd6 := hdep ⟨0, .data⟩ (by simp) rfl
   have q6 := dd6.2 _ rfl _ rfl
   have h6 := hJ.vals 0 dd6.1 no_c
   rw [hT] at h6
   rw [show f 0 = .pointer (some ⟨M, 0, none⟩) from h6] at q6
   clear h6
   clear dd6
   rw [Array.getD_eq_getD_getElem?] at q6
   clear hsz hdep hout hlat
   go_simp
   exact hK _ _ (hJ.plain (by rw [hls]; decide) hFst (by decide) (Ex.refl _) (by rw [hT]; first | rfl | exact int_eq (by omega) | exact int_eq (by rw [IntKind.wrap_i64]; omega)) (no_head (by decide)))
  ·have dd9 := hdep ⟨3, .data⟩ (by simp) rfl
   have q9 := dd9.2 _ rfl _ rfl
   have h9 := hJ.vals 3 dd9.1 no_c
   rw [hT] at h9
   rw [show f 3 = .pointer (some ⟨M, 0, none⟩) from h9] at q9
   clear h9
   clear dd9
   rw [Array.getD_eq_getD_getElem?] at q9
   clear hsz hdep hout hlat
   go_simp
   exact hK _ _ (hJ.plain (by rw [hls]; decide) hFst (by decide) (Ex.refl _) (by rw [hT]; first | rfl | exact int_eq (by omega) | exact int_eq (by rw [IntKind.wrap_i64]; omega)) (no_head (by decide)))
  ·have dd10 := hdep ⟨4, .data⟩ (by simp) rfl
   have q10 := dd10.2 _ rfl _ rfl
   have h10 := hJ.vals 4 dd10.1 no_c
   rw [hT] at h10
   rw [show f 4 = .pointer (some ⟨M, 0, none⟩) from h10] at q10
   clear h10
   clear dd10
   have dd8 := hdep ⟨2, .data⟩ (by simp) rfl
   have q8 := dd8.2 _ rfl _ rfl
   have h8 := hJ.vals 2 dd8.1 no_c
   rw [hT] at h8
   rw [show f 2 = .int .i64 s from h8] at q8
   clear h8
   clear dd8
   rw [Array.getD_eq_getD_getElem?] at q10 q8
   clear hsz hdep hout hlat
   go_simp
   exact hK _ _ (hJ.plain (by rw [hls]; decide) hFst (by decide) (Ex.refl _) (by rw [hT]; first | rfl | exact int_eq (by omega) | exact int_eq (by rw [IntKind.wrap_i64]; omega)) (no_head (by decide)))
  ·have dd11 := hdep ⟨5, .data⟩ (by simp) rfl
   have q11 := dd11.2 _ rfl _ rfl
   have h11 := hJ.vals 5 dd11.1 no_c
   rw [hT] at h11
   rw [show f 5 = .pointer (some ⟨M, s, none⟩) from h11] at q11
   clear h11
   clear dd11
   have hcut : listed.getD 11 false = false := by
    cases hc : listed.getD 11 false with
    | false => rfl
    | true =>
     have hc0 := hJ.ord (11, 6) (by simp) hc
     exact absurd hc0 (by rw [hun]; decide)
   have hpre := hJ.pre hcut
   have c6 : w3.cell? ⟨M, s, none⟩ = some (.pointer (some ⟨D s, 0, none⟩)) := by rw [(HIM.out.blk.ext hpre).cell, List.getElem?_toArray]; exact ptrs_at 16 D s hs16 hs16
   rw [Array.getD_eq_getD_getElem?] at q11
   clear hsz hdep hout hlat
   go_simp
   exact hK _ _ (hJ.plain (by rw [hls]; decide) hFst (by decide) (Ex.refl _) (by rw [hT]; rfl) (no_head (by decide)))
  ·have q3 := hout 3 (outB_spec (by kernel_rfl))
   have hcut : listed.getD 11 false = false := by
    cases hc : listed.getD 11 false with
    | false => rfl
    | true =>
     have hc0 := hJ.ord (11, 7) (by simp) hc
     exact absurd hc0 (by rw [hun]; decide)
   have hpre := hJ.pre hcut
   exact ld_idb (.tmp 3) g id HID.out rfl q3 (B0.out.ext hpre) (hK _ _ (hJ.plain (by rw [hls]; decide) hFst (by decide) (Ex.refl _) (by rw [hT]; rfl) (no_head (by decide))))
  ·have dd12 := hdep ⟨6, .data⟩ (by simp) rfl
   have q12 := dd12.2 _ rfl _ rfl
   have h12 := hJ.vals 6 dd12.1 no_c
   rw [hT] at h12
   rw [show f 6 = .pointer (some ⟨D s, 0, none⟩) from h12] at q12
   clear h12
   clear dd12
   have dd13 := hdep ⟨7, .data⟩ (by simp) rfl
   have q13 := dd13.2 _ rfl _ rfl
   have h13 := hJ.vals 7 dd13.1 no_c
   rw [hT] at h13
   rw [show f 7 = digV id from h13] at q13
   clear h13
   clear dd13
   have hcut : listed.getD 11 false = false := by
    cases hc : listed.getD 11 false with
    | false => rfl
    | true =>
     have hc0 := hJ.ord (11, 8) (by simp) hc
     exact absurd hc0 (by rw [hun]; decide)
   have hpre := hJ.pre hcut
   rw [Array.getD_eq_getD_getElem?] at q12 q13
   clear hsz hdep hout hlat
   go_simp
   refine (tget_det id HID.out HDT.out w3 ((HIM.out.ts.tb s hs16).ext hpre)).mono ?_
   rintro e w4 ⟨x, rfl, h1, h2, x4⟩
   exact hK _ _ (hJ.plain (by rw [hls]; decide) hFst (by decide) x4 (by rw [hT]; exact ⟨x, rfl, h1, h2⟩) (no_head (by decide)))
  ·have dd14 := hdep ⟨8, .data⟩ (by simp) rfl
   have q14 := dd14.2 _ rfl _ rfl
   have hcut : listed.getD 11 false = false := by
    cases hc : listed.getD 11 false with
    | false => rfl
    | true =>
     have hc0 := hJ.ord (11, 9) (by simp) hc
     exact absurd hc0 (by rw [hun]; decide)
   have h14 := hJ.vals 8 dd14.1 (fun c hc => by have hc : some 11 = some c := hc; cases hc; exact hcut)
   rw [hT] at h14
   have h14 : (fun v9 w9 => ∃ x : Vt, v9 = .tuple #[x.V, .bool b] ∧ x.ct = c ∧ TVN w9 x) (f 8) w3 := h14
   obtain ⟨x14, e14, c14, n14⟩ := h14
   rw [e14] at q14
   clear e14
   clear dd14
   rw [Array.getD_eq_getD_getElem?] at q14
   clear hsz hdep hout hlat
   go_simp
   exact hK _ _ (hJ.plain (by rw [hls]; decide) hFst (by decide) (Ex.refl _) (by rw [hT]; exact ⟨x14, rfl, c14, n14⟩) (no_head (by decide)))
  ·have dd14 := hdep ⟨8, .data⟩ (by simp) rfl
   have q14 := dd14.2 _ rfl _ rfl
   have hcut : listed.getD 11 false = false := by
    cases hc : listed.getD 11 false with
    | false => rfl
    | true =>
     have hc0 := hJ.ord (11, 10) (by simp) hc
     exact absurd hc0 (by rw [hun]; decide)
   have h14 := hJ.vals 8 dd14.1 (fun c hc => by have hc : some 11 = some c := hc; cases hc; exact hcut)
   rw [hT] at h14
   have h14 : (fun v9 w9 => ∃ x : Vt, v9 = .tuple #[x.V, .bool b] ∧ x.ct = c ∧ TVN w9 x) (f 8) w3 := h14
   obtain ⟨x14, e14, c14, n14⟩ := h14
   rw [e14] at q14
   clear e14
   clear dd14
   rw [Array.getD_eq_getD_getElem?] at q14
   clear hsz hdep hout hlat
   go_simp
   exact hK _ _ (hJ.plain (by rw [hls]; decide) hFst (by decide) (Ex.refl _) (by rw [hT]; first | rfl | exact int_eq (by omega) | exact int_eq (by rw [IntKind.wrap_i64]; omega)) (no_head (by decide)))
  ·have q4 := hout 4 (outB_spec (by kernel_rfl))
   have dd15 := hdep ⟨9, .data⟩ (by simp) rfl
   have q15 := dd15.2 _ rfl _ rfl
   have h15 := hJ.vals 9 dd15.1 (fun c hc => by have hc : some 11 = some c := hc; cases hc; exact hun)
   rw [hT] at h15
   have h15 : (fun v9 w9 => ∃ x : Vt, v9 = x.V ∧ x.ct = c ∧ TVN w9 x) (f 9) w3 := h15
   obtain ⟨x15, e15, c15, n15⟩ := h15
   rw [e15] at q15
   clear e15
   clear dd15
   have hl1 := (hdep ⟨1, .phase⟩ (by simp) rfl).1
   have hl6 := (hdep ⟨6, .phase⟩ (by simp) rfl).1
   have hl7 := (hdep ⟨7, .phase⟩ (by simp) rfl).1
   have hl8 := (hdep ⟨8, .chain⟩ (by simp) rfl).1
   have hl9 := (hdep ⟨9, .data⟩ (by simp) rfl).1
   have hl10 := (hdep ⟨10, .phase⟩ (by simp) rfl).1
   have hord : ∀ x ∈ ([(11, 1), (11, 6), (11, 7), (11, 8), (11, 9), (11, 10)] : List (Nat × Nat)), x.1 = 11 → listed.getD x.2 false = true := (by intro x hx he; simp only [List.mem_cons, List.not_mem_nil, or_false] at hx; rcases hx with rfl | rfl | rfl | rfl | rfl | rfl; all_goals first | (exact absurd he (by decide)) | assumption)
   have hcut := hun
   have hpre := hJ.pre hcut
   have hc1 : ∀ j, j ≠ 11 → ([true, true, true, true, true, true, true, true, false, false, true, true, true] : List Bool).getD j true = false → listed.getD j false = true → ∃ c, (([none, none, none, none, none, none, none, none, some 11, some 11, none, none, none] : List (Option Nat))).getD j none = some c ∧ (c = 11 ∨ listed.getD c false = true) := by
    intro j hj hfj hl
    have hm : j = 8 ∨ j = 9 := by
     rcases Nat.lt_or_ge j 13 with h | h
     ·have hk : j = 0 ∨ j = 1 ∨ j = 2 ∨ j = 3 ∨ j = 4 ∨ j = 5 ∨ j = 6 ∨ j = 7 ∨ j = 8 ∨ j = 9 ∨ j = 10 ∨ j = 11 ∨ j = 12 := by omega
      rcases hk with rfl | rfl | rfl | rfl | rfl | rfl | rfl | rfl | rfl | rfl | rfl | rfl | rfl <;> first | (exact absurd hfj (by decide)) | simp
     rw [List.getD_eq_getElem?_getD, List.getElem?_eq_none (by simpa using h)] at hfj; cases hfj
    rcases hm with rfl | rfl
    ·exact ⟨11, rfl, Or.inl rfl⟩
    exact ⟨11, rfl, Or.inl rfl⟩
   have z9 : VB w3 (g + 1) zeroVt := ⟨zeroVt_ok, Z0.out.2.ext hpre⟩
   refine st_v (.tmp 4) (.tmp 15) (g + 1) x15 rfl q4 q15 n15.ok z9.2 (by rfl) (fun w5 hd ho => ?_)
   have hfin : ∃ x : Vt, VB w5 (g + 1) x ∧ x.ct = c ∧ TVN w5 x ∧ Ex w w5 := ⟨x15, hd, c15, ⟨n15.ok, n15.sec.onlyT ho z9.2 (by decide), n15.len⟩, ho.below w.heap.size (by have := HG.out; omega) w (Ex.trans BW.out hpre)⟩
   exact hK _ _ (hJ.mod (by rw [hls]; decide) HFX (by rw [hT]; exact trivial) hc1 (Or.inl rfl) (fun _ => hfin) hord)
  have dd16 := hdep ⟨10, .data⟩ (by simp) rfl
  have q16 := dd16.2 _ rfl _ rfl
  have h16 := hJ.vals 10 dd16.1 no_c
  rw [hT] at h16
  rw [show f 10 = .bool b from h16] at q16
  clear h16
  clear dd16
  rw [Array.getD_eq_getD_getElem?] at q16
  clear hsz hdep hout hlat
  go_simp
  exact hK _ _ (hJ.plain (by rw [hls]; decide) hFst (by decide) (Ex.refl _) (by rw [hT]; first | rfl | exact int_eq (by omega) | exact int_eq (by rw [IntKind.wrap_i64]; omega)) (no_head (by decide)))
 intro listed f w3 hall hJ
 have f12 : f 12 = .bool b := by
  have h := hJ.vals 12 (hall 12 (by simp)) no_c
  rw [hT] at h; exact h
 have xf : (fun w9 => ∃ x : Vt, VB w9 (g + 1) x ∧ x.ct = c ∧ TVN w9 x ∧ Ex w w9) w3 := hJ.fin (hall 11 (by simp))
 simp only [putAll, Act.put, List.setIfInBounds_toArray, List.set_cons_zero, List.set_cons_succ, Nat.zero_add, Nat.reduceAdd]
 rw [f12]
 clear f12
 clear hJ hall hT HFX hFst
 obtain ⟨x, h1, h2, h3, h4⟩ := xf
 have HX := Lib.hid (And.intro h1 (And.intro h2 (And.intro h3 h4)))
 clear h1 h2 h3 h4
 go_wp2_with fail
 exact bodyPost_ret (res_v2 rfl _ _ (g + 1) rfl x HX.out.1) rfl ⟨x, rfl, HX.out.2.1, HX.out.2.2.1, HX.out.2.2.2⟩
end Go.Proofs.Ytmjfnpmnhehnkaa
namespace Go.Proofs.Ytmjfnpmnhehnkaa
open Go.RowKit
theorem rising_ct {xs ys : List Vt} (h : ys.map Vt.ct = xs.map Vt.ct) (hx : Rising xs) : Rising ys := by
 have hl : ys.length = xs.length := by have := congrArg List.length h; simpa using this
 refine ⟨by rw [hl]; exact hx.1, fun i y hy => ?_, fun i hi => ?_⟩
 ·have e : (ys.map Vt.ct)[i]? = (xs.map Vt.ct)[i]? := by rw [h]
  rw [List.getElem?_map, List.getElem?_map, hy] at e
  cases hxi : xs[i]? with
  | none => rw [hxi] at e; cases e
  | some x =>
   rw [hxi] at e
   have e : y.ct = x.ct := by simpa using e
   rw [e]; exact hx.2.1 i x hxi
 rw [idF_ct h, idF_ct h]; exact hx.2.2 i (by rw [← hl]; exact hi)
/-- a table's row is made anew from another's -/
theorem fill_from {w3 : World} {D B : Nat} {rv va : Value} {vs ys : List Vt} (h : TB w3 D rv vs) (hy : VRow w3 B va ys) (hr : Rising ys) : Calls Try.prog 61 #[.pointer (some ⟨D, 0, none⟩), va] w3 fun e w4 => e = .returned (.int .i64 0) ∧ ∃ rv' zs, TB w4 D rv' zs ∧ zs.map Vt.ct = ys.map Vt.ct ∧ (∀ g, rv'.ownBlock = some g → w3.heap.size ≤ g) ∧ Kt [169] D w3 w4 ∧ Md D w3 w4 := by
 obtain ⟨ad, cap, e, hin⟩ := hy.inn
 obtain ⟨ad2, cap2, e2, _, _, hc, _⟩ := own_rd hy.row
 rw [e] at e2; cases e2
 subst e
 refine (tfill_any2 D rv vs ad cap ys hc w3 h hin (fun i x hx => (hy.ins i x hx).vi)).mono ?_
 rintro e w4 ⟨h1 | h1, h2⟩
 ·obtain ⟨_, rfl, rv', zs, a1, a2, a3, a4⟩ := h1
  exact ⟨rfl, rv', zs, a1, a2, a3, a4, h2⟩
 exact absurd hr h1.1
theorem IM.fill {w w3 w4 : World} {M k : Nat} {D : Nat → Nat} {r : Nat → Value} {v : Nat → List Vt} {rv' : Value} {zs : List Vt} (h : IM w3 w.heap.size M D r v) (x : Ex w w3) (hk : k < 16) (ht : TB w4 (D k) rv' zs) (hf : ∀ g, rv'.ownBlock = some g → w3.heap.size ≤ g) (k1 : Kt [169] (D k) w3 w4) (k2 : Md (D k) w3 w4) : IM w4 w.heap.size M D (updF r k rv') (updF v k zs) ∧ Ex w w4 :=
 ⟨⟨k1.bk h.blk (by decide), h.ts.fill hk ht k2 hf⟩, Below.trans x (k1.below.mono (h.ts.lo k hk))⟩
def ICopyPost (v : Nat → List Vt) (w : World) (e : Ending) (w' : World) : Prop := ∃ (M : Nat) (D : Nat → Nat) (r : Nat → Value) (v2 : Nat → List Vt), e = .returned (.pointer (some ⟨M, 0, none⟩)) ∧ IM w' w.heap.size M D r v2 ∧ w.heap.size ≤ M ∧ (∀ i, i < 16 → (v2 i).map Vt.ct = (v i).map Vt.ct) ∧ Ex w w'
set_option maxHeartbeats 4000000 in
set_option maxRecDepth 100000 in
theorem icopy_any (B M : Nat) (D : Nat → Nat) (r : Nat → Value) (v : Nat → List Vt) (hr : ∀ i, i < 16 → Rising (v i)) (w : World) (h : IM w B M D r v) : Calls Try.prog 42 #[.pointer (some ⟨M, 0, none⟩)] w (ICopyPost v w) := by
 have HIM := Lib.hid h
 have HR := Lib.hid hr
 clear h hr
 go_enter Try.func42, Try.ntmps42
 go_wp2_with (first | (with_reducible refine stop_load (t := 138) ?_))
 refine (inew_any w).mono ?_
 rintro e w1 ⟨M2, D2, r2, v2, rfl, h1, h2, -, h4⟩
 have PP := Lib.hid (And.intro h1 h4)
 have HM2 := Lib.hid h2
 clear h1 h2 h4
 go_wp2_with (first | (with_reducible refine stop_load (t := 138) ?_))
 (with_reducible refine at9 ?_ ?_); (focus go_simp); refine fun K0 hK => ld_pa _ M D rfl rfl (HIM.out.ext PP.out.2).blk (hK _ _ ?_)
 clear hK
 obtain ⟨pa, hpa⟩ : ∃ pa, pa = (ptrs 16 D).toArray := ⟨_, rfl⟩
 rw [← hpa]
 have HPA := Lib.hid hpa
 clear hpa
 go_wp2_with (first | (with_reducible refine stop_ix ?_))
 go_loopw [11] (fun i wr => ∃ (k : Nat) (r2 : Nat → Value) (v2 : Nat → List Vt), k ≤ 16 ∧ i = .int .i64 k ∧ Hid (IM wr w.heap.size M2 D2 r2 v2 ∧ Ex w wr ∧ ∀ i, i < k → (v2 i).map Vt.ct = (v i).map Vt.ct)) (fun i _ => 16 - (intOf i).toNat)
 case atStart => exact ⟨0, r2, v2, by omega, rfl, Lib.hid ⟨PP.out.1, PP.out.2, fun i hi => absurd hi (Nat.not_lt_zero i)⟩⟩
 case round =>
  clear PP
  clear r2 v2
  obtain ⟨k, r2, v2, hk, rfl, P⟩ := hrel
  by_cases hlt : k < 16
  ·have q0 : (0 : Int) ≤ (k : Int) := by omega
   have q1 : (k : Int) < 16 := by omega
   go_wp2_with (first | (with_reducible refine stop_ix ?_))
   (with_reducible refine at9 ?_ ?_); (focus go_simp); refine fun K0 hK => wp_ix _ _ D k hlt rfl (by rw [← HPA.out]; rfl) rfl (hK _ _ ?_)
   clear hK
   go_wp2_with fail
   obtain ⟨T, hT⟩ : ∃ T : List Sx, T = [.is (.pointer (some ⟨M2, 0, none⟩)), .is (.int .i64 k), .is (.pointer (some ⟨M2, 0, none⟩)), .is (.pointer (some ⟨M2, 0, none⟩)), .is (.pointer (some ⟨M2, k, none⟩)), .is (.pointer (some ⟨D2 k, 0, none⟩)), .is (.pointer (some ⟨D k, 0, none⟩)), .of (fun v9 w9 => ∃ ys : List Vt, VRow w9 wr.heap.size v9 ys ∧ ys.map Vt.ct = (v k).map Vt.ct) (fun v9 _ _ h k => by obtain ⟨ys, h1, h2⟩ := h; exact ⟨ys, h1.ext k, h2⟩), .any] := ⟨_, rfl⟩
   have HFX : T.map Sx.fixed = [true, true, true, true, true, true, true, false, true] := by rw [hT]; rfl
   have hFst : ∀ wa wb, (fun w9 => ∃ (r3 : Nat → Value) (v3 : Nat → List Vt), IM w9 w.heap.size M2 D2 r3 v3 ∧ Ex w w9 ∧ ∀ i, i < k + 1 → (v3 i).map Vt.ct = (v i).map Vt.ct) wa → Ex wa wb → (fun w9 => ∃ (r3 : Nat → Value) (v3 : Nat → List Vt), IM w9 w.heap.size M2 D2 r3 v3 ∧ Ex w w9 ∧ ∀ i, i < k + 1 → (v3 i).map Vt.ct = (v i).map Vt.ct) wb := fun _ _ h k9 => by obtain ⟨r3, v3, h1, h2, h3⟩ := h; exact ⟨r3, v3, h1.ext k9, Ex.trans h2 k9, h3⟩
   refine wp_region_gen (JE wr T ([none, none, none, none, none, none, none, some 8, none] : List (Option Nat)) ([(8, 5), (8, 7)] : List (Nat × Nat)) 8 8 (fun w9 => ∃ (r3 : Nat → Value) (v3 : Nat → List Vt), IM w9 w.heap.size M2 D2 r3 v3 ∧ Ex w w9 ∧ ∀ i, i < k + 1 → (v3 i).map Vt.ct = (v i).map Vt.ct)) (by kernel_rfl) (by kernel_rfl) (by kernel_rfl) (fitB_spec (by kernel_rfl)) (fun listed f h => JE.start listed f h) ?_ ?_
   ·intro i o ho
    have hi : i < 9 := (Array.getElem?_eq_some_iff.1 ho).1
    have hi' : i = 0 ∨ i = 1 ∨ i = 2 ∨ i = 3 ∨ i = 4 ∨ i = 5 ∨ i = 6 ∨ i = 7 ∨ i = 8 := by omega
    clear hi
    rcases hi' with rfl | rfl | rfl | rfl | rfl | rfl | rfl | rfl | rfl
    all_goals (simp only [List.getElem?_toArray, List.getElem?_cons_zero, List.getElem?_cons_succ, Option.some.injEq] at ho; subst ho; intro listed f a w3 hJ hsz hls hun hdep hout hlat; first | (rw [if_pos (by rfl)]; intro K hK) | skip)
    ·have q3 := hout 3 (outB_spec (by kernel_rfl))
     refine wp_mv _ rfl (hK _ _ ?_)
     rw [show a.eval (.tmp 3) = .pointer (some ⟨M2, 0, none⟩) from q3]
     exact hJ.plain (by rw [hls]; decide) hFst (by decide) (Ex.refl _) (by rw [hT]; rfl) (no_head (by decide))
    ·have q4 := hout 4 (outB_spec (by kernel_rfl))
     refine wp_mv _ rfl (hK _ _ ?_)
     rw [show a.eval (.tmp 4) = .int .i64 k from q4]
     exact hJ.plain (by rw [hls]; decide) hFst (by decide) (Ex.refl _) (by rw [hT]; rfl) (no_head (by decide))
    ·have dd15 := hdep ⟨0, .data⟩ (by simp) rfl
     have q15 := dd15.2 _ rfl _ rfl
     have h15 := hJ.vals 0 dd15.1 no_c
     rw [hT] at h15
     rw [show f 0 = .pointer (some ⟨M2, 0, none⟩) from h15] at q15
     clear h15
     clear dd15
     rw [Array.getD_eq_getD_getElem?] at q15
     clear hsz hdep hout hlat
     go_simp
     exact hK _ _ (hJ.plain (by rw [hls]; decide) hFst (by decide) (Ex.refl _) (by rw [hT]; first | rfl | exact int_eq (by omega) | exact int_eq (by rw [IntKind.wrap_i64]; omega)) (no_head (by decide)))
    ·have dd17 := hdep ⟨2, .data⟩ (by simp) rfl
     have q17 := dd17.2 _ rfl _ rfl
     have h17 := hJ.vals 2 dd17.1 no_c
     rw [hT] at h17
     rw [show f 2 = .pointer (some ⟨M2, 0, none⟩) from h17] at q17
     clear h17
     clear dd17
     rw [Array.getD_eq_getD_getElem?] at q17
     clear hsz hdep hout hlat
     go_simp
     exact hK _ _ (hJ.plain (by rw [hls]; decide) hFst (by decide) (Ex.refl _) (by rw [hT]; first | rfl | exact int_eq (by omega) | exact int_eq (by rw [IntKind.wrap_i64]; omega)) (no_head (by decide)))
    ·have dd18 := hdep ⟨3, .data⟩ (by simp) rfl
     have q18 := dd18.2 _ rfl _ rfl
     have h18 := hJ.vals 3 dd18.1 no_c
     rw [hT] at h18
     rw [show f 3 = .pointer (some ⟨M2, 0, none⟩) from h18] at q18
     clear h18
     clear dd18
     have dd16 := hdep ⟨1, .data⟩ (by simp) rfl
     have q16 := dd16.2 _ rfl _ rfl
     have h16 := hJ.vals 1 dd16.1 no_c
     rw [hT] at h16
     rw [show f 1 = .int .i64 k from h16] at q16
     clear h16
     clear dd16
     rw [Array.getD_eq_getD_getElem?] at q18 q16
     clear hsz hdep hout hlat
     go_simp
     exact hK _ _ (hJ.plain (by rw [hls]; decide) hFst (by decide) (Ex.refl _) (by rw [hT]; first | rfl | exact int_eq (by omega) | exact int_eq (by rw [IntKind.wrap_i64]; omega)) (no_head (by decide)))
    ·have dd19 := hdep ⟨4, .data⟩ (by simp) rfl
     have q19 := dd19.2 _ rfl _ rfl
     have h19 := hJ.vals 4 dd19.1 no_c
     rw [hT] at h19
     rw [show f 4 = .pointer (some ⟨M2, k, none⟩) from h19] at q19
     clear h19
     clear dd19
     have hcut : listed.getD 8 false = false := by
      cases hc : listed.getD 8 false with
      | false => rfl
      | true =>
       have hc0 := hJ.ord (8, 5) (by simp) hc
       exact absurd hc0 (by rw [hun]; decide)
     have hpre := hJ.pre hcut
     have c6 : w3.cell? ⟨M2, k, none⟩ = some (.pointer (some ⟨D2 k, 0, none⟩)) := by rw [(P.out.1.blk.ext hpre).cell, List.getElem?_toArray]; exact ptrs_at 16 D2 k hlt hlt
     rw [Array.getD_eq_getD_getElem?] at q19
     clear hsz hdep hout hlat
     go_simp
     exact hK _ _ (hJ.plain (by rw [hls]; decide) hFst (by decide) (Ex.refl _) (by rw [hT]; rfl) (no_head (by decide)))
    ·have q5 := hout 5 (outB_spec (by kernel_rfl))
     refine wp_mv _ rfl (hK _ _ ?_)
     rw [show a.eval (.tmp 5) = .pointer (some ⟨D k, 0, none⟩) from q5]
     exact hJ.plain (by rw [hls]; decide) hFst (by decide) (Ex.refl _) (by rw [hT]; rfl) (no_head (by decide))
    ·have dd21 := hdep ⟨6, .data⟩ (by simp) rfl
     have q21 := dd21.2 _ rfl _ rfl
     have h21 := hJ.vals 6 dd21.1 no_c
     rw [hT] at h21
     rw [show f 6 = .pointer (some ⟨D k, 0, none⟩) from h21] at q21
     clear h21
     clear dd21
     have hcut : listed.getD 8 false = false := by
      cases hc : listed.getD 8 false with
      | false => rfl
      | true =>
       have hc0 := hJ.ord (8, 7) (by simp) hc
       exact absurd hc0 (by rw [hun]; decide)
     have hpre := hJ.pre hcut
     rw [Array.getD_eq_getD_getElem?] at q21
     clear hsz hdep hout hlat
     go_simp
     refine (tall_any (D k) (r k) (v k) w3 ((HIM.out.ext (Ex.trans P.out.2.1 hpre)).ts.tb k hlt)).mono ?_
     rintro e w4 ⟨v9, ys, rfl, h1, h2, x4⟩
     exact hK _ _ (hJ.plain (by rw [hls]; decide) hFst (by decide) x4 (by rw [hT]; exact ⟨ys, h1.less hpre.sz', h2⟩) (no_head (by decide)))
    have dd20 := hdep ⟨5, .data⟩ (by simp) rfl
    have q20 := dd20.2 _ rfl _ rfl
    have h20 := hJ.vals 5 dd20.1 no_c
    rw [hT] at h20
    rw [show f 5 = .pointer (some ⟨D2 k, 0, none⟩) from h20] at q20
    clear h20
    clear dd20
    have dd22 := hdep ⟨7, .data⟩ (by simp) rfl
    have q22 := dd22.2 _ rfl _ rfl
    have h22 := hJ.vals 7 dd22.1 (fun c hc => by have hc : some 8 = some c := hc; cases hc; exact hun)
    rw [hT] at h22
    have h22 : (fun v9 w9 => ∃ ys : List Vt, VRow w9 wr.heap.size v9 ys ∧ ys.map Vt.ct = (v k).map Vt.ct) (f 7) w3 := h22
    obtain ⟨ys22, r22, c22⟩ := h22
    obtain ⟨v22, e22⟩ : ∃ v, v = f 7 := ⟨_, rfl⟩
    rw [← e22] at r22 q22
    clear e22
    clear dd22
    have hl5 := (hdep ⟨5, .data⟩ (by simp) rfl).1
    have hl7 := (hdep ⟨7, .data⟩ (by simp) rfl).1
    have hord : ∀ x ∈ ([(8, 5), (8, 7)] : List (Nat × Nat)), x.1 = 8 → listed.getD x.2 false = true := (by intro x hx he; simp only [List.mem_cons, List.not_mem_nil, or_false] at hx; rcases hx with rfl | rfl; all_goals first | (exact absurd he (by decide)) | assumption)
    have hcut := hun
    have hpre := hJ.pre hcut
    have hc1 : ∀ j, j ≠ 8 → ([true, true, true, true, true, true, true, false, true] : List Bool).getD j true = false → listed.getD j false = true → ∃ c, (([none, none, none, none, none, none, none, some 8, none] : List (Option Nat))).getD j none = some c ∧ (c = 8 ∨ listed.getD c false = true) := by
     intro j hj hfj hl
     have hm : j = 7 := by
      rcases Nat.lt_or_ge j 9 with h | h
      ·have hk : j = 0 ∨ j = 1 ∨ j = 2 ∨ j = 3 ∨ j = 4 ∨ j = 5 ∨ j = 6 ∨ j = 7 ∨ j = 8 := by omega
       rcases hk with rfl | rfl | rfl | rfl | rfl | rfl | rfl | rfl | rfl <;> first | (exact absurd hfj (by decide)) | simp
      rw [List.getD_eq_getElem?_getD, List.getElem?_eq_none (by simpa using h)] at hfj; cases hfj
     rcases hm with rfl
     ·exact ⟨8, rfl, Or.inl rfl⟩
    rw [Array.getD_eq_getD_getElem?] at q20 q22
    have HC1 := Lib.hid hc1
    clear hc1
    have HHD := Lib.hid @hdep
    clear hsz hout hlat
    go_simp
    refine (fill_from ((P.out.1.ts.tb k hlt).ext hpre) r22 (rising_ct c22 (HR.out k hlt))).mono ?_
    rintro e w4 ⟨rfl, rv', zs, a1, a2, a3, a4, a5⟩
    have hc1 := HC1.out
    have hff := (P.out.1.ext hpre).fill (Ex.trans P.out.2.1 hpre) hlt a1 a3 a4 a5
    have hfin : ∃ (r3 : Nat → Value) (v3 : Nat → List Vt), IM w4 w.heap.size M2 D2 r3 v3 ∧ Ex w w4 ∧ ∀ i, i < k + 1 → (v3 i).map Vt.ct = (v i).map Vt.ct := by
     refine ⟨_, _, hff.1, hff.2, fun i hi => ?_⟩
     by_cases e : i = k
     ·rw [e, updF_same, a2, c22]
     rw [updF_ne _ _ e]; exact P.out.2.2 i (by omega)
    exact hK _ _ (hJ.mod (by rw [hls]; decide) HFX (by rw [hT]; exact trivial) hc1 (Or.inl rfl) (fun _ => hfin) hord)
   intro listed f w3 hall hJ
   have xf : (fun w9 => ∃ (r3 : Nat → Value) (v3 : Nat → List Vt), IM w9 w.heap.size M2 D2 r3 v3 ∧ Ex w w9 ∧ ∀ i, i < k + 1 → (v3 i).map Vt.ct = (v i).map Vt.ct) w3 := hJ.fin (hall 8 (by simp))
   simp only [putAll, Act.put, List.setIfInBounds_toArray, List.set_cons_zero, List.set_cons_succ, Nat.zero_add, Nat.reduceAdd]
   clear hJ hall hT HFX hFst
   obtain ⟨r3, v3, h1, h2, h3⟩ := xf
   have P2 := Lib.hid (And.intro h1 (And.intro h2 h3))
   clear P h1 h2 h3
   go_wp2_with fail
   (first | (refine ⟨?_, ?measure⟩; (repeat apply Exists.intro); refine ⟨?rel, rfl⟩) | refine ⟨?rel, ?measure⟩)
   case rel => exact ⟨k + 1, r3, v3, by omega, by go_num, P2⟩
   case measure => simp [intOf]; omega
  obtain rfl : k = 16 := by omega
  go_wp2_with fail
  go_ret
  exact ⟨M2, D2, r2, v2, rfl, P.out.1, HM2.out, P.out.2.2, P.out.2.1⟩
end Go.Proofs.Ytmjfnpmnhehnkaa
