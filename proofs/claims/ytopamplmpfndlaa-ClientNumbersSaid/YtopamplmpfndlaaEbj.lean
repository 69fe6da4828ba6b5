/- MStA -/
import Derived.Test.YtopamplmpfndlaaEap
import Derived.Test.YtopamplmpfndlaaEbi
set_option maxRecDepth 100000
set_option maxHeartbeats 16000000
namespace Go.Proofs.Ytopamplmpfndlaa.Sm
open Go.RowKit
def digsL (l S : List UInt8) : Nat → List UInt8
 | 0 => sumL (S ++ l)
 | r + 1 => sumL (digsL l S r ++ S)
theorem digsL_len (l S : List UInt8) : ∀ r, (digsL l S r).length = 16
 | 0 => sumL_len _
 | _ + 1 => sumL_len _
def idV (l : List UInt8) : Value := .agg (Lib.byteCells l).toArray
theorem max_min_nat (c : Int) : ∃ m : Nat, m ≤ 1024 ∧ (min (max c 0) 1024).toNat = m ∧ (m : Int) = min (max c 0) 1024 := ⟨(min (max c 0) 1024).toNat, by omega, rfl, by omega⟩
theorem digits_any (s : ByteArray) (hs : s.size ≤ 80000000000000) (S : List UInt8) (hS : S.length = 16) (c : Int) (w : World) :
  Calls Try.prog 33 #[.string s, digV S, .int .i64 c] w fun e w' => e = .returned (digV (digsL s.data.toList S (min (max c 0) 1024).toNat)) ∧ Below w.heap.size w w' := by
 obtain ⟨m, hm, hm2, hc⟩ := max_min_nat c
 rw [hm2]
 clear hm2
 have hl : s.data.toList.length ≤ 80000000000000 := by rw [Array.length_toList]; exact hs
 obtain ⟨L, hL⟩ : ∃ L, L = s.data.toList := ⟨_, rfl⟩
 rw [← hL] at hl
 have TW := Lib.hid (fun (W : World) (X : List UInt8) (hX : X.length = 16) => two_any X S hX hS W)
 have HLs := Lib.hid hL.symm
 obtain ⟨X0, hX0⟩ : ∃ X, X = sumL (S ++ L) := ⟨_, rfl⟩
 have HX0 := Lib.hid (show X0.length = 16 by rw [hX0]; exact sumL_len _)
 have HX0D := Lib.hid (show digsL L S 0 = X0 from hX0.symm)
 have KY := Lib.hid (fun (W : World) (p : Pt) (hp : p.l = s.data.toList) (h : p.In W W.heap.size) => show Calls Try.prog _ #[digV S, p.V] W fun e w' => e = .returned (digV X0) ∧ Below W.heap.size W w' by
  have k := keyed_any S hS p W h (by rw [hp, ← hL]; omega)
  rw [hp, ← hL, ← hX0] at k
  exact k)
 obtain ⟨cs, hcs⟩ : ∃ cs, cs = (Lib.byteCells S).toArray := ⟨_, rfl⟩
 have hv : digV S = .agg cs := by rw [hcs]; rfl
 have A1 : Hid (DB (w.alloc (.cells cs 36)) w.heap.size S) := by rw [hcs]; exact Lib.hid (DB.new rfl hS)
 rw [hv, ← hL]
 clear hv hcs hl hX0 hL
 have A2 := Lib.hid (A1.out.ext ((Below.refl _ _).alloc (Nat.le_refl _) (.cells zero16 36)))
 have B2 : Hid (Bk ((w.alloc (.cells cs 36)).alloc (.cells zero16 36)) (w.heap.size + 1) 36 zero16) := Lib.hid (Bk.new (by simp) _ _)
 have bw : Below w.heap.size w ((w.alloc (.cells cs 36)).alloc (.cells zero16 36)) := ((Below.refl _ _).alloc (Nat.le_refl _) _).alloc (by simp) _
 have bz : w.heap.size + 2 ≤ ((w.alloc (.cells cs 36)).alloc (.cells zero16 36)).heap.size := by simp
 clear A1
 go_enter Try.func33, Try.ntmps33
 go_wp2_with (first
  | ((with_reducible refine at_any ?_ ?_); (focus go_simp); (refine fun K hK => wp_ld _ _ S rfl rfl A2.out (hK _ _ ?_)))
  | ((with_reducible refine at_any ?_ ?_); (focus go_simp); (refine fun K hK => wp_cvs _ s rfl rfl (fun p w2 hp hi hx => hK _ _ ?_))))
 refine (KY.out w2 p hp hi).mono ?_
 rintro e w3 ⟨rfl, hx3⟩
 have xx : Ex ((w.alloc (.cells cs 36)).alloc (.cells zero16 36)) w3 := hx.trans hx3
 have A3 := Lib.hid (A2.out.ext xx)
 have B3 := Lib.hid (B2.out.ext xx)
 have bw3 : Below w.heap.size w w3 := bw.trans (xx.mono (by omega))
 have bz3 := xx.size
 have gz : w.heap.size + 2 ≤ w3.heap.size := by omega
 clear A2 B2 bw bz xx hx hx3 hi bz3
 go_wp2_with (first
  | ((with_reducible refine at_any ?_ ?_); (focus go_simp); (refine fun K hK => wp_st _ _ w3.heap.size X0 rfl rfl rfl HX0.out (Bk.new rfl _ _) rfl (fun w4 hd ho => hK _ _ ?_))))
 all_goals (
  first
   | have hmv : (m : Int) = 0 := by omega
   | have hmv : (m : Int) = 1024 := by omega
   | have hmv : (m : Int) = c := by omega
  obtain ⟨g, hg⟩ : ∃ g, g = w3.heap.size := ⟨_, rfl⟩
  have hgz : w.heap.size + 2 ≤ g := by omega
  have x3 : Ex w3 (w3.alloc (.cells zero16 36)) := (Below.refl _ _).alloc (Nat.le_refl _) _
  have A4 := Lib.hid (ho.db (A3.out.ext x3) (by omega))
  have B4 := Lib.hid (ho.bk (B3.out.ext x3) (by omega))
  have bw4 : Below w.heap.size w w4 := ho.below _ (by omega) _ (bw3.trans (x3.mono (by omega)))
  have C4 := Lib.hid hd
  rw [← HX0D.out] at C4
  rw [← hg] at C4 ⊢
  clear hc hK hd ho x3 A3 B3 bw3 gz hg KY HX0 HX0D HLs
  go_loopw [15] (fun i wr => ∃ j : Nat, j ≤ m ∧ i = .int .i64 (j : Int) ∧ Hid (DB wr w.heap.size S) ∧ Hid (Bk wr (w.heap.size + 1) 36 zero16) ∧ Hid (DB wr g (digsL L S j)) ∧ Below w.heap.size w wr) (fun i _ => m - (intOf i).toNat)
  case atStart => exact ⟨0, by omega, rfl, A4, B4, C4, bw4⟩
  case round =>
   clear A4 B4 C4 bw4
   obtain ⟨j, hj, rfl, hA, hB, hC, bwr⟩ := hrel
   obtain ⟨X, hX⟩ : ∃ X, X = digsL L S j := ⟨_, rfl⟩
   have HX := Lib.hid (show X.length = 16 by rw [hX]; exact digsL_len _ _ _)
   obtain ⟨X1, hX1⟩ : ∃ X1, X1 = digsL L S (j + 1) := ⟨_, rfl⟩
   have HX1 := Lib.hid (show X1.length = 16 by rw [hX1]; exact digsL_len _ _ _)
   have HXX := Lib.hid (show sumL (X ++ S) = X1 by rw [hX1, hX]; rfl)
   have HX1D := Lib.hid hX1
   rw [← hX] at hC
   have T2 := Lib.hid (TW.out wr X HX.out)
   rw [HXX.out] at T2
   by_cases hlt : j < m
   ·clear hX hX1
    go_wp2_with (first
     | ((with_reducible refine at_any ?_ ?_); (focus go_simp); (refine fun K hK => wp_ld _ _ X rfl rfl hC.out (hK _ _ ?_)))
     | ((with_reducible refine at_any ?_ ?_); (focus go_simp); (refine fun K hK => wp_ld _ _ S rfl rfl hA.out (hK _ _ ?_))))
    all_goals (
     refine T2.out.mono ?_
     rintro e w4 ⟨rfl, hx4⟩
     have A3 := Lib.hid (hA.out.ext hx4)
     have B3 := Lib.hid (hB.out.ext hx4)
     have C3 := Lib.hid (hC.out.ext hx4)
     have bw4 : Below w.heap.size w w4 := bwr.trans (hx4.mono bwr.size)
     clear hA hB hC bwr hx4 T2
     go_wp2_with ((with_reducible refine at_any ?_ ?_); (focus go_simp); (refine fun K hK => wp_st0 _ _ g X1 X rfl rfl rfl HX1.out C3.out (fun w5 hd5 ho5 => hK _ _ ?_)))
     go_roundw
     case rel => exact ⟨j + 1, by omega, by go_num, Lib.hid (ho5.db A3.out (by omega)), Lib.hid (ho5.bk B3.out (by omega)), by rw [← HX1D.out]; exact Lib.hid hd5, ho5.below _ (by omega) _ bw4⟩
     case measure => simp [intOf]; omega)
   ·obtain rfl : j = m := by omega
    clear T2 HXX HX1D hX1 HX1
    rw [hX] at hC HX
    clear hX
    have hB6 := hB
    go_wp2_with (first
     | ((with_reducible refine at_any ?_ ?_); (focus go_simp); (refine fun K hK => wp_ld _ _ (digsL L S j) rfl rfl hC.out (hK _ _ ?_)))
     | ((with_reducible refine at_any ?_ ?_); (focus go_simp); (refine fun K hK => wp_st _ _ (w.heap.size + 1) (digsL L S j) rfl rfl rfl (digsL_len _ _ _) hB6.out rfl (fun w7 hd7 ho7 => hK _ _ ?_))))
    exact bodyPost_ret (res_dig rfl _ _ (w.heap.size + 1) rfl (digsL L S j) hd7) rfl ⟨rfl, ho7.below _ (by omega) _ bwr⟩)
theorem rdigits_any (s : ByteArray) (hs : s.size ≤ 80000000000000) (S : List UInt8) (hS : S.length = 16) (c : Int) (w : World) :
  Calls Try.prog 34 #[.string s, digV S, .int .i64 c] w fun e w' => e = .returned (digV (digsL s.data.toList S (min (max c 0) 1024).toNat)) ∧ Below w.heap.size w w' := by
 obtain ⟨m, hm, hm2, hc⟩ := max_min_nat c
 rw [hm2]
 clear hm2
 have hl : s.data.toList.length ≤ 80000000000000 := by rw [Array.length_toList]; exact hs
 obtain ⟨L, hL⟩ : ∃ L, L = s.data.toList := ⟨_, rfl⟩
 rw [← hL] at hl
 have TW := Lib.hid (fun (W : World) (X : List UInt8) (hX : X.length = 16) => rtwo_any X S hX hS W)
 have HLs := Lib.hid hL.symm
 obtain ⟨X0, hX0⟩ : ∃ X, X = sumL (S ++ L) := ⟨_, rfl⟩
 have HX0 := Lib.hid (show X0.length = 16 by rw [hX0]; exact sumL_len _)
 have HX0D := Lib.hid (show digsL L S 0 = X0 from hX0.symm)
 have KY := Lib.hid (fun (W : World) (p : Pt) (hp : p.l = s.data.toList) (h : p.In W W.heap.size) => show Calls Try.prog _ #[digV S, p.V] W fun e w' => e = .returned (digV X0) ∧ Below W.heap.size W w' by
  have k := rkeyed_any S hS p W h (by rw [hp, ← hL]; omega)
  rw [hp, ← hL, ← hX0] at k
  exact k)
 obtain ⟨cs, hcs⟩ : ∃ cs, cs = (Lib.byteCells S).toArray := ⟨_, rfl⟩
 have hv : digV S = .agg cs := by rw [hcs]; rfl
 have A1 : Hid (DB (w.alloc (.cells cs 36)) w.heap.size S) := by rw [hcs]; exact Lib.hid (DB.new rfl hS)
 rw [hv, ← hL]
 clear hv hcs hl hX0 hL
 have A2 := Lib.hid (A1.out.ext ((Below.refl _ _).alloc (Nat.le_refl _) (.cells zero16 36)))
 have B2 : Hid (Bk ((w.alloc (.cells cs 36)).alloc (.cells zero16 36)) (w.heap.size + 1) 36 zero16) := Lib.hid (Bk.new (by simp) _ _)
 have bw : Below w.heap.size w ((w.alloc (.cells cs 36)).alloc (.cells zero16 36)) := ((Below.refl _ _).alloc (Nat.le_refl _) _).alloc (by simp) _
 have bz : w.heap.size + 2 ≤ ((w.alloc (.cells cs 36)).alloc (.cells zero16 36)).heap.size := by simp
 clear A1
 go_enter Try.func34, Try.ntmps34
 go_wp2_with (first
  | ((with_reducible refine at_any ?_ ?_); (focus go_simp); (refine fun K hK => wp_ld _ _ S rfl rfl A2.out (hK _ _ ?_)))
  | ((with_reducible refine at_any ?_ ?_); (focus go_simp); (refine fun K hK => wp_cvs _ s rfl rfl (fun p w2 hp hi hx => hK _ _ ?_))))
 refine (KY.out w2 p hp hi).mono ?_
 rintro e w3 ⟨rfl, hx3⟩
 have xx : Ex ((w.alloc (.cells cs 36)).alloc (.cells zero16 36)) w3 := hx.trans hx3
 have A3 := Lib.hid (A2.out.ext xx)
 have B3 := Lib.hid (B2.out.ext xx)
 have bw3 : Below w.heap.size w w3 := bw.trans (xx.mono (by omega))
 have bz3 := xx.size
 have gz : w.heap.size + 2 ≤ w3.heap.size := by omega
 clear A2 B2 bw bz xx hx hx3 hi bz3
 go_wp2_with (first
  | ((with_reducible refine at_any ?_ ?_); (focus go_simp); (refine fun K hK => wp_st _ _ w3.heap.size X0 rfl rfl rfl HX0.out (Bk.new rfl _ _) rfl (fun w4 hd ho => hK _ _ ?_))))
 all_goals (
  first
   | have hmv : (m : Int) = 0 := by omega
   | have hmv : (m : Int) = 1024 := by omega
   | have hmv : (m : Int) = c := by omega
  obtain ⟨g, hg⟩ : ∃ g, g = w3.heap.size := ⟨_, rfl⟩
  have hgz : w.heap.size + 2 ≤ g := by omega
  have x3 : Ex w3 (w3.alloc (.cells zero16 36)) := (Below.refl _ _).alloc (Nat.le_refl _) _
  have A4 := Lib.hid (ho.db (A3.out.ext x3) (by omega))
  have B4 := Lib.hid (ho.bk (B3.out.ext x3) (by omega))
  have bw4 : Below w.heap.size w w4 := ho.below _ (by omega) _ (bw3.trans (x3.mono (by omega)))
  have C4 := Lib.hid hd
  rw [← HX0D.out] at C4
  rw [← hg] at C4 ⊢
  clear hc hK hd ho x3 A3 B3 bw3 gz hg KY HX0 HX0D HLs
  go_loopw [8] (fun i wr => ∃ j k : Nat, j + k = m ∧ i = .int .i64 (k : Int) ∧ Hid (DB wr w.heap.size S) ∧ Hid (Bk wr (w.heap.size + 1) 36 zero16) ∧ Hid (DB wr g (digsL L S j)) ∧ Below w.heap.size w wr) (fun i _ => (intOf i).toNat)
  case atStart => exact ⟨0, m, by omega, by congr 1; omega, A4, B4, C4, bw4⟩
  case round =>
   clear A4 B4 C4 bw4
   obtain ⟨j, k, hj, rfl, hA, hB, hC, bwr⟩ := hrel
   obtain ⟨X, hX⟩ : ∃ X, X = digsL L S j := ⟨_, rfl⟩
   have HX := Lib.hid (show X.length = 16 by rw [hX]; exact digsL_len _ _ _)
   obtain ⟨X1, hX1⟩ : ∃ X1, X1 = digsL L S (j + 1) := ⟨_, rfl⟩
   have HX1 := Lib.hid (show X1.length = 16 by rw [hX1]; exact digsL_len _ _ _)
   have HXX := Lib.hid (show sumL (X ++ S) = X1 by rw [hX1, hX]; rfl)
   have HX1D := Lib.hid hX1
   rw [← hX] at hC
   have T2 := Lib.hid (TW.out wr X HX.out)
   rw [HXX.out] at T2
   by_cases hlt : 0 < k
   ·clear hX hX1
    go_wp2_with (first
     | ((with_reducible refine at_any ?_ ?_); (focus go_simp); (refine fun K hK => wp_ld _ _ X rfl rfl hC.out (hK _ _ ?_)))
     | ((with_reducible refine at_any ?_ ?_); (focus go_simp); (refine fun K hK => wp_ld _ _ S rfl rfl hA.out (hK _ _ ?_))))
    all_goals (
     refine T2.out.mono ?_
     rintro e w4 ⟨rfl, hx4⟩
     have A3 := Lib.hid (hA.out.ext hx4)
     have B3 := Lib.hid (hB.out.ext hx4)
     have C3 := Lib.hid (hC.out.ext hx4)
     have bw4 : Below w.heap.size w w4 := bwr.trans (hx4.mono bwr.size)
     clear hA hB hC bwr hx4 T2
     go_wp2_with ((with_reducible refine at_any ?_ ?_); (focus go_simp); (refine fun K hK => wp_st0 _ _ g X1 X rfl rfl rfl HX1.out C3.out (fun w5 hd5 ho5 => hK _ _ ?_)))
     go_roundw
     case rel => exact ⟨j + 1, k - 1, by omega, by congr 1; omega, Lib.hid (ho5.db A3.out (by omega)), Lib.hid (ho5.bk B3.out (by omega)), by rw [← HX1D.out]; exact Lib.hid hd5, ho5.below _ (by omega) _ bw4⟩
     case measure => simp [intOf]; omega)
   ·obtain rfl : j = m := by omega
    clear T2 HXX HX1D hX1 HX1
    rw [hX] at hC HX
    clear hX
    have hB6 := hB
    go_wp2_with (first
     | ((with_reducible refine at_any ?_ ?_); (focus go_simp); (refine fun K hK => wp_ld _ _ (digsL L S j) rfl rfl hC.out (hK _ _ ?_)))
     | ((with_reducible refine at_any ?_ ?_); (focus go_simp); (refine fun K hK => wp_st _ _ (w.heap.size + 1) (digsL L S j) rfl rfl rfl (digsL_len _ _ _) hB6.out rfl (fun w7 hd7 ho7 => hK _ _ ?_))))
    exact bodyPost_ret (res_dig rfl _ _ (w.heap.size + 1) rfl (digsL L S j) hd7) rfl ⟨rfl, ho7.below _ (by omega) _ bwr⟩)
theorem salt_any (I : List UInt8) (hI : I.length = 4) (w : World) :
  Calls Try.prog 31 #[idV I] w fun e w' => e = .returned (digV (sumL I)) ∧ Below w.heap.size w w' := by
 obtain ⟨cs, hcs⟩ : ∃ cs, cs = (Lib.byteCells I).toArray := ⟨_, rfl⟩
 have hv : idV I = .agg cs := by rw [hcs]; rfl
 obtain ⟨X, hX⟩ : ∃ X, X = sumL I := ⟨_, rfl⟩
 have HX := Lib.hid (show X.length = 16 by rw [hX]; exact sumL_len _)
 have x1 : Ex (w.alloc (.cells cs 26)) ((w.alloc (.cells cs 26)).alloc (.cells zero16 36)) := (Below.refl _ _).alloc (Nat.le_refl _) _
 have bw : Below w.heap.size w ((w.alloc (.cells cs 26)).alloc (.cells zero16 36)) := ((Below.refl _ _).alloc (Nat.le_refl _) _).alloc (by simp) _
 have D2 : Hid (Bk ((w.alloc (.cells cs 26)).alloc (.cells zero16 36)) (w.heap.size + 1) 36 zero16) := Lib.hid (Bk.new (by simp) _ _)
 have PT := bk_pt (l := I) (by rw [← hcs]; exact (Bk.new (w := w) rfl 26 cs).ext x1)
 have SM := sum_pt _ _ PT (by show I.length < _; omega)
 have hV : (Pt.mk (some ⟨w.heap.size, 0, none⟩) I.length I).V = .slice (some ⟨w.heap.size, 0, none⟩) 4 4 := by unfold Pt.V; simp only [hI]
 rw [hV] at SM
 have SM : Hid (Calls Try.prog 69 #[.slice (some ⟨w.heap.size, 0, none⟩) 4 4] ((w.alloc (.cells cs 26)).alloc (.cells zero16 36)) fun e w' => e = .returned (digV X) ∧ Ex ((w.alloc (.cells cs 26)).alloc (.cells zero16 36)) w') := by rw [hX]; exact Lib.hid SM
 have bz : w.heap.size + 2 ≤ ((w.alloc (.cells cs 26)).alloc (.cells zero16 36)).heap.size := by simp
 rw [hv, ← hX]
 clear PT hV hv hX hcs x1 hI
 go_enter Try.func31, Try.ntmps31
 go_wp2_with fail
 refine SM.out.mono ?_
 rintro e w3 ⟨rfl, hx⟩
 have D3 := Lib.hid (D2.out.ext hx)
 have bw3 : Below w.heap.size w w3 := bw.trans (hx.mono (by omega))
 clear D2 SM bw hx bz
 go_wp2_with ((with_reducible refine at_any ?_ ?_); (focus go_simp); (refine fun K hK => wp_st _ _ (w.heap.size + 1) X rfl rfl rfl HX.out D3.out rfl (fun w4 hd ho => hK _ _ ?_)))
 exact bodyPost_ret (res_dig rfl _ _ (w.heap.size + 1) rfl X hd) rfl ⟨rfl, ho.below _ (by omega) _ bw3⟩
theorem rsalt_any (I : List UInt8) (hI : I.length = 4) (w : World) :
  Calls Try.prog 32 #[idV I] w fun e w' => e = .returned (digV (sumL I)) ∧ Below w.heap.size w w' := by
 obtain ⟨cs, hcs⟩ : ∃ cs, cs = (Lib.byteCells I).toArray := ⟨_, rfl⟩
 have hv : idV I = .agg cs := by rw [hcs]; rfl
 obtain ⟨X, hX⟩ : ∃ X, X = sumL I := ⟨_, rfl⟩
 have HX := Lib.hid (show X.length = 16 by rw [hX]; exact sumL_len _)
 have x1 : Ex (w.alloc (.cells cs 26)) ((w.alloc (.cells cs 26)).alloc (.cells zero16 36)) := (Below.refl _ _).alloc (Nat.le_refl _) _
 have bw : Below w.heap.size w ((w.alloc (.cells cs 26)).alloc (.cells zero16 36)) := ((Below.refl _ _).alloc (Nat.le_refl _) _).alloc (by simp) _
 have D2 : Hid (Bk ((w.alloc (.cells cs 26)).alloc (.cells zero16 36)) (w.heap.size + 1) 36 zero16) := Lib.hid (Bk.new (by simp) _ _)
 have PT := bk_pt (l := I) (by rw [← hcs]; exact (Bk.new (w := w) rfl 26 cs).ext x1)
 have SM := rsum_pt _ _ PT (by show I.length < _; omega)
 have hV : (Pt.mk (some ⟨w.heap.size, 0, none⟩) I.length I).V = .slice (some ⟨w.heap.size, 0, none⟩) 4 4 := by unfold Pt.V; simp only [hI]
 rw [hV] at SM
 have SM : Hid (Calls Try.prog 70 #[.slice (some ⟨w.heap.size, 0, none⟩) 4 4] ((w.alloc (.cells cs 26)).alloc (.cells zero16 36)) fun e w' => e = .returned (digV X) ∧ Ex ((w.alloc (.cells cs 26)).alloc (.cells zero16 36)) w') := by rw [hX]; exact Lib.hid SM
 have bz : w.heap.size + 2 ≤ ((w.alloc (.cells cs 26)).alloc (.cells zero16 36)).heap.size := by simp
 rw [hv, ← hX]
 clear PT hV hv hX hcs x1 hI
 go_enter Try.func32, Try.ntmps32
 go_wp2_with fail
 refine SM.out.mono ?_
 rintro e w3 ⟨rfl, hx⟩
 have D3 := Lib.hid (D2.out.ext hx)
 have bw3 : Below w.heap.size w w3 := bw.trans (hx.mono (by omega))
 clear D2 SM bw hx bz
 go_wp2_with ((with_reducible refine at_any ?_ ?_); (focus go_simp); (refine fun K hK => wp_st _ _ (w.heap.size + 1) X rfl rfl rfl HX.out D3.out rfl (fun w4 hd ho => hK _ _ ?_)))
 exact bodyPost_ret (res_dig rfl _ _ (w.heap.size + 1) rfl X hd) rfl ⟨rfl, ho.below _ (by omega) _ bw3⟩
end Go.Proofs.Ytopamplmpfndlaa.Sm
