/- known of chapter 14 -/
import Derived.Test.YtgoiidpcdifojaaRoJ
namespace Go.Proofs.Ytgoiidpcdifojaa
open Go.RowKit
set_option maxHeartbeats 8000000 in
set_option maxRecDepth 100000 in
theorem known14_any (w : World) : Calls Try.prog 26 #[] w fun e w' => e = .returned (.bool true) ∧ Below w.heap.size w w' := by
  have D1 := Lib.hid (show withV 1 [0, 2, 5] 3 = 2 ∧ withL 1 [0, 2, 5] 3 = [0, 2, 3, 5] ∧ withB 1 [0, 2, 5] 3 = true by decide +kernel)
  have D2 := Lib.hid (show lessB 1 [4] 4 = false by decide +kernel)
  have D3 := Lib.hid (show rightB 1 [0, 2, 5] = true by decide +kernel)
  have D4 := Lib.hid (show followsB 1 [0, 2, 5] 2 [0, 2, 3, 5] = true by decide +kernel)
  have D5 := Lib.hid (show followsB 1 [0, 2, 5] 1 [0, 2, 5] = false by decide +kernel)
  have D6 := Lib.hid (show majI 1 [0, 2, 5] = 2 by decide +kernel)
  have D7 := Lib.hid (show hasB 1 [0, 2, 5] 5 = true by decide +kernel)
  obtain ⟨p, hpp⟩ : ∃ p : Pt, p = ⟨some ⟨w.heap.size, 0, none⟩, 3, [0, 2, 5]⟩ := ⟨_, rfl⟩
  have hpv : p.V = .slice (some ⟨w.heap.size, 0, none⟩) 3 3 := by rw [hpp]; rfl
  have hpl : p.l = [0, 2, 5] := by rw [hpp]
  have pin0 : p.In (w.alloc (.cells #[.int .i64 0, .int .i64 2, .int .i64 5] 3)) (w.alloc (.cells #[.int .i64 0, .int .i64 2, .int .i64 5] 3)).heap.size := by
    rw [hpp]; exact bk_pt (t := 3) (l := [0, 2, 5]) (Bk.new rfl _ _)
  have bw0 : Ex w (w.alloc (.cells #[.int .i64 0, .int .i64 2, .int .i64 5] 3)) := (Below.refl _ _).alloc (Nat.le_refl _) _
  have PIN0 := Lib.hid pin0
  have BW0 := Lib.hid bw0
  have HPV := Lib.hid hpv
  have HPL := Lib.hid hpl
  clear hpp hpv hpl pin0 bw0
  go_enter Try.func26, Try.ntmps26
  go_wp2_with (first | (with_reducible refine stop_load45 ?_) | (with_reducible refine stop_store45 ?_))
  (with_reducible refine ⟨?_⟩); (with_reducible refine at_any ?_ ?_); (focus go_simp); refine fun K hK => wp_st45 _ _ (w.heap.size + 1) 1 0 p nilP rfl rfl (by unfold LV; rw [HPV.out]; rfl) (Bk.new (by simp) _ _) (fun w2 hd ho => hK _ _ ?_)
  have pin := Lib.hid ((PIN0.out.ext ((Below.refl _ _).alloc (Nat.le_refl _) _)).st (n := 0) (q := nilP) ho (Bk.new (by simp) _ _))
  have bw : Ex w w2 := ho.below w.heap.size (by omega) w (Ex.trans BW0.out ((Below.refl _ _).alloc (Nat.le_refl _) _))
  generalize w.heap.size + 1 = g0 at hd ho ⊢
  have A := Lib.hid hd
  clear hK ho hd PIN0 BW0
  go_wp2_with (first | (with_reducible refine stop_load45 ?_) | (with_reducible refine stop_store45 ?_))
  (with_reducible refine ⟨?_⟩); (with_reducible refine at_any ?_ ?_); (focus go_simp); refine fun K hK => wp_ld45 _ g0 1 p rfl rfl A.out (hK _ _ ?_)
  clear hK
  go_wp2_with (first | (with_reducible refine stop_load45 ?_) | (with_reducible refine stop_store45 ?_))
  have cw := with_any 1 p 3 w2 pin.out
  rw [HPL.out, D1.out.1, D1.out.2.1, D1.out.2.2] at cw
  refine cw.mono ?_
  rintro e w3 ⟨r1, rfl, hl1, i1, x3⟩
  go_wp2_with (first | (with_reducible refine stop_load45 ?_) | (with_reducible refine stop_store45 ?_))
  (with_reducible refine ⟨?_⟩); (with_reducible refine at_any ?_ ?_); (focus go_simp); refine fun K hK => wp_st45 _ _ w3.heap.size 2 0 r1 nilP rfl rfl rfl (Bk.new rfl _ _) (fun w4 hd ho => hK _ _ ?_)
  have x34 := Ex.trans x3 ho.ex
  have J1 := Lib.hid ((i1.ext ((Below.refl _ _).alloc (Nat.le_refl _) _)).st (n := 0) (q := nilP) ho (Bk.new rfl _ _))
  replace A := Lib.hid (LB.ext A.out x34)
  replace pin := Lib.hid (Pt.In.ext pin.out x34)
  replace bw := Ex.trans bw x34
  generalize w3.heap.size = g1 at hd ⊢
  have G1 := Lib.hid hd
  have HL1 := Lib.hid hl1
  clear hK ho hd x3 x34 i1 hl1 cw D1
  have pin4 : Hid ((Pt.mk (some ⟨w4.heap.size, 0, none⟩) 1 [4]).In (w4.alloc (.cells #[.int .i64 4] 3)) (w4.alloc (.cells #[.int .i64 4] 3)).heap.size) := Lib.hid (one_in w4 4)
  have cl := less_any' 1 ⟨some ⟨w4.heap.size, 0, none⟩, 1, [4]⟩ 4 _ pin4.out
  rw [show lessB 1 (Pt.mk (some ⟨w4.heap.size, 0, none⟩) 1 [4]).l 4 = false from D2.out] at cl
  have xa : Ex w4 (w4.alloc (.cells #[.int .i64 4] 3)) := (Below.refl _ _).alloc (Nat.le_refl _) _
  have XA := Lib.hid xa
  have CL := Lib.hid cl
  clear xa cl pin4
  go_wp2_with (first | (with_reducible refine stop_load45 ?_) | (with_reducible refine stop_store45 ?_))
  refine CL.out.mono ?_
  rintro e w5 ⟨r2, rfl, hl2, i2, x5⟩
  clear i2 hl2
  generalize lessV 1 (Pt.mk (some ⟨w4.heap.size, 0, none⟩) 1 [4]).l 4 = V2
  go_wp2_with (first | (with_reducible refine stop_load45 ?_) | (with_reducible refine stop_store45 ?_))
  (with_reducible refine ⟨?_⟩); (with_reducible refine at_any ?_ ?_); (focus go_simp); refine fun K hK => wp_st45 _ _ w5.heap.size V2 0 r2 nilP rfl rfl rfl (Bk.new rfl _ _) (fun w6 hd ho => hK _ _ ?_)
  have x46 := Ex.trans (Ex.trans XA.out x5) ho.ex
  replace A := Lib.hid (LB.ext A.out x46)
  replace G1 := Lib.hid (LB.ext G1.out x46)
  replace pin := Lib.hid (Pt.In.ext pin.out x46)
  replace J1 := Lib.hid (Pt.In.ext J1.out x46)
  replace bw := Ex.trans bw x46
  clear hK ho hd x5 x46 XA CL D2
  go_wp2_with (first | (with_reducible refine stop_load45 ?_) | (with_reducible refine stop_store45 ?_))
  (with_reducible refine ⟨?_⟩); (with_reducible refine at_any ?_ ?_); (focus go_simp); refine fun K hK => wp_ld45 _ g0 1 p rfl rfl A.out (hK _ _ ?_)
  clear hK
  go_wp2_with (first | (with_reducible refine stop_load45 ?_) | (with_reducible refine stop_store45 ?_))
  have cr := right_any 1 p w6 pin.out
  rw [HPL.out, D3.out] at cr
  refine cr.mono ?_
  rintro e w7 ⟨rfl, x7⟩
  replace A := Lib.hid (LB.ext A.out x7)
  replace G1 := Lib.hid (LB.ext G1.out x7)
  replace pin := Lib.hid (Pt.In.ext pin.out x7)
  replace J1 := Lib.hid (Pt.In.ext J1.out x7)
  replace bw := Ex.trans bw x7
  clear x7 cr D3
  obtain ⟨rv, hrv⟩ : ∃ rv, rv = r1.V := ⟨_, rfl⟩
  have HRV := Lib.hid hrv
  have f0 : w7.cell? ⟨g1, 0, none⟩ = some (.int .u64 2) := Bk.cell G1.out 0
  have f1 : w7.cell? ⟨g1, 1, none⟩ = some rv := by rw [hrv]; exact Bk.cell G1.out 1
  have cs := fun W (h1 : r1.In W W.heap.size) (g : Nat) (h2 : (Pt.mk (some ⟨g, 0, none⟩) 4 [0, 2, 3, 5]).In W W.heap.size) => sameI_any r1 ⟨some ⟨g, 0, none⟩, 4, [0, 2, 3, 5]⟩ W h1 h2 (by rw [HL1.out]; decide) (by show 4 ≤ _; decide)
  rw [HL1.out] at cs
  simp only [decide_true] at cs
  rw [← hrv] at cs
  have CS := Lib.hid cs
  clear hrv cs
  have xa : Ex w7 (w7.alloc (.cells #[.int .i64 0, .int .i64 2, .int .i64 3, .int .i64 5] 3)) := (Below.refl _ _).alloc (Nat.le_refl _) _
  have XA := Lib.hid xa
  have n4 := Lib.hid (bk_pt (t := 3) (l := [0, 2, 3, 5]) (Bk.new (w := w7) rfl 3 #[.int .i64 0, .int .i64 2, .int .i64 3, .int .i64 5]))
  clear xa
  go_wp2_with (first | (with_reducible refine stop_load45 ?_) | (with_reducible refine stop_store45 ?_))
  refine (CS.out _ (Pt.In.ext J1.out XA.out) _ n4.out).mono ?_
  rintro e w8 ⟨rfl, x8⟩
  have x78 := Ex.trans XA.out x8
  replace A := Lib.hid (LB.ext A.out x78)
  replace G1 := Lib.hid (LB.ext G1.out x78)
  replace pin := Lib.hid (Pt.In.ext pin.out x78)
  replace J1 := Lib.hid (Pt.In.ext J1.out x78)
  replace bw := Ex.trans bw x78
  clear x8 x78 XA CS n4 f0 f1 HRV
  go_wp2_with (first | (with_reducible refine stop_load45 ?_) | (with_reducible refine stop_store45 ?_))
  (with_reducible refine ⟨?_⟩); (with_reducible refine at_any ?_ ?_); (focus go_simp); refine fun K hK => wp_ld45 _ g0 1 p rfl rfl A.out (hK _ _ ?_)
  clear hK
  go_wp2_with (first | (with_reducible refine stop_load45 ?_) | (with_reducible refine stop_store45 ?_))
  (with_reducible refine ⟨?_⟩); (with_reducible refine at_any ?_ ?_); (focus go_simp); refine fun K hK => wp_ld45 _ g1 2 r1 rfl rfl G1.out (hK _ _ ?_)
  clear hK
  go_wp2_with (first | (with_reducible refine stop_load45 ?_) | (with_reducible refine stop_store45 ?_))
  have cf := follows_any 1 2 p r1 w8 pin.out J1.out (by rw [HL1.out]; decide)
  rw [HPL.out, HL1.out, D4.out] at cf
  refine cf.mono ?_
  rintro e w9 ⟨rfl, x9⟩
  replace A := Lib.hid (LB.ext A.out x9)
  replace pin := Lib.hid (Pt.In.ext pin.out x9)
  replace bw := Ex.trans bw x9
  clear x9 cf D4 G1 J1
  go_wp2_with (first | (with_reducible refine stop_load45 ?_) | (with_reducible refine stop_store45 ?_))
  (with_reducible refine ⟨?_⟩); (with_reducible refine at_any ?_ ?_); (focus go_simp); refine fun K hK => wp_ld45 _ g0 1 p rfl rfl A.out (hK _ _ ?_)
  clear hK
  go_wp2_with (first | (with_reducible refine stop_load45 ?_) | (with_reducible refine stop_store45 ?_))
  (with_reducible refine ⟨?_⟩); (with_reducible refine at_any ?_ ?_); (focus go_simp); refine fun K hK => wp_ld45 _ g0 1 p rfl rfl A.out (hK _ _ ?_)
  clear hK
  go_wp2_with (first | (with_reducible refine stop_load45 ?_) | (with_reducible refine stop_store45 ?_))
  have cf := follows_any 1 1 p p w9 pin.out pin.out (by rw [HPL.out]; decide)
  rw [HPL.out, D5.out] at cf
  refine cf.mono ?_
  rintro e w10 ⟨rfl, x10⟩
  replace A := Lib.hid (LB.ext A.out x10)
  replace pin := Lib.hid (Pt.In.ext pin.out x10)
  replace bw := Ex.trans bw x10
  clear x10 cf D5
  go_wp2_with (first | (with_reducible refine stop_load45 ?_) | (with_reducible refine stop_store45 ?_))
  (with_reducible refine ⟨?_⟩); (with_reducible refine at_any ?_ ?_); (focus go_simp); refine fun K hK => wp_ld45 _ g0 1 p rfl rfl A.out (hK _ _ ?_)
  clear hK
  go_wp2_with (first | (with_reducible refine stop_load45 ?_) | (with_reducible refine stop_store45 ?_))
  have cm := maj_any 1 p w10 pin.out
  rw [HPL.out, D6.out] at cm
  refine cm.mono ?_
  rintro e w11 ⟨rfl, x11⟩
  replace A := Lib.hid (LB.ext A.out x11)
  replace pin := Lib.hid (Pt.In.ext pin.out x11)
  replace bw := Ex.trans bw x11
  clear x11 cm D6
  go_wp2_with (first | (with_reducible refine stop_load45 ?_) | (with_reducible refine stop_store45 ?_))
  (with_reducible refine ⟨?_⟩); (with_reducible refine at_any ?_ ?_); (focus go_simp); refine fun K hK => wp_ld45 _ g0 1 p rfl rfl A.out (hK _ _ ?_)
  clear hK
  go_wp2_with (first | (with_reducible refine stop_load45 ?_) | (with_reducible refine stop_store45 ?_))
  have ch := has_any 1 p 5 w11 pin.out
  rw [HPL.out, D7.out] at ch
  refine ch.mono ?_
  rintro e w12 ⟨rfl, x12⟩
  replace bw := Ex.trans bw x12
  go_wp2_with (first | (with_reducible refine stop_load45 ?_) | (with_reducible refine stop_store45 ?_))
  go_ret
  exact ⟨rfl, bw⟩
end Go.Proofs.Ytgoiidpcdifojaa
