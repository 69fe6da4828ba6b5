/- play of chapter 21 walked -/
import Derived.Test.YtedljddjmojeeaaPr
namespace Go.Proofs.Ytedljddjmojeeaa
open Go.RowKit
set_option maxHeartbeats 4000000 in
set_option maxRecDepth 100000 in
theorem p21_6 (w : World) (ad : Option Addr) (cap n : Nat) (most : Int) (l : List Ak) (O : Nat) (mv : Value) (hv : Value) (k : Nat) (ls : List (Bool × Lt)) (y : Nat → Value) (wr : World) (hk : k ≤ n) (P : Hid (Pst w wr O (ctO ls) ls mv hv)) (hL : n ≤ 9223372036854775807) (hin : Ap.In ad cap l w) (hnl : n = l.length) (hmo : (k : Int) < most) (A0 : Ak) (hA0 : l[k]? = some A0) (hlt : k < n) (hkind : A0.kind = 6) (Q0 : Exit → Act → World → Prop) (hexit : ∀ a' w'', p21I w ad cap n most l O a' w'' → Q0 (.exit 0) a' w'') :
    Code.wp Try.prog p21Body (Exit.then (fun a' w'' => p21I w ad cap n most l O a' w'' ∧ p21M n a' w'' < p21M n ⟨#[.slice ad n cap, .int .i64 most, y 2, y 3, .bool false, .pointer (some ⟨O, 0, none⟩), mv, hv, .int .i64 k, y 9, y 10, y 11, y 12, y 13, y 14, y 15, y 16, y 17, y 18, y 19, y 20, y 21, y 22, y 23, y 24, y 25, y 26, y 27, y 28, y 29, y 30, y 31, y 32, y 33, y 34, y 35, y 36, y 37, y 38, y 39, y 40, y 41, y 42, y 43, y 44, y 45, y 46, y 47, y 48, y 49, y 50, y 51, y 52, y 53, y 54, y 55, y 56, y 57, y 58, y 59, y 60, y 61, y 62, y 63, y 64, y 65, y 66, y 67, y 68, y 69, y 70, y 71, y 72, y 73, y 74, y 75, y 76, y 77, y 78, y 79, y 80, y 81, y 82, y 83, y 84, y 85, y 86, y 87, y 88, y 89, y 90, y 91, y 92, y 93, y 94, y 95, y 96, y 97, y 98, y 99, y 100, y 101, y 102, y 103, y 104, y 105, y 106, y 107, y 108, y 109, y 110, y 111, y 112, y 113, y 114, y 115, y 116, y 117, y 118, y 119, y 120, y 121, y 122, y 123, y 124, y 125, y 126, y 127, y 128, y 129, y 130, y 131, y 132, y 133, y 134, y 135, y 136, y 137, y 138, y 139, y 140, y 141, y 142, y 143, y 144, y 145, y 146, y 147, y 148, y 149, y 150, y 151, y 152, y 153, y 154, y 155, y 156, y 157, y 158, y 159, y 160, y 161, y 162, y 163, y 164, y 165, y 166, y 167, y 168, y 169, y 170, y 171, y 172, y 173, y 174, y 175, y 176, y 177, y 178, y 179, y 180, y 181, y 182, y 183, y 184, y 185, y 186, y 187, y 188, y 189, y 190, y 191, y 192, y 193, y 194, y 195, y 196, y 197, y 198, y 199, y 200, y 201, y 202, y 203, y 204, y 205, y 206, y 207, y 208, y 209, y 210, y 211, y 212, y 213], []⟩ wr) Q0) ⟨#[.slice ad n cap, .int .i64 most, y 2, y 3, .bool false, .pointer (some ⟨O, 0, none⟩), mv, hv, .int .i64 k, y 9, y 10, y 11, y 12, y 13, y 14, y 15, y 16, y 17, y 18, y 19, y 20, y 21, y 22, y 23, y 24, y 25, y 26, y 27, y 28, y 29, y 30, y 31, y 32, y 33, y 34, y 35, y 36, y 37, y 38, y 39, y 40, y 41, y 42, y 43, y 44, y 45, y 46, y 47, y 48, y 49, y 50, y 51, y 52, y 53, y 54, y 55, y 56, y 57, y 58, y 59, y 60, y 61, y 62, y 63, y 64, y 65, y 66, y 67, y 68, y 69, y 70, y 71, y 72, y 73, y 74, y 75, y 76, y 77, y 78, y 79, y 80, y 81, y 82, y 83, y 84, y 85, y 86, y 87, y 88, y 89, y 90, y 91, y 92, y 93, y 94, y 95, y 96, y 97, y 98, y 99, y 100, y 101, y 102, y 103, y 104, y 105, y 106, y 107, y 108, y 109, y 110, y 111, y 112, y 113, y 114, y 115, y 116, y 117, y 118, y 119, y 120, y 121, y 122, y 123, y 124, y 125, y 126, y 127, y 128, y 129, y 130, y 131, y 132, y 133, y 134, y 135, y 136, y 137, y 138, y 139, y 140, y 141, y 142, y 143, y 144, y 145, y 146, y 147, y 148, y 149, y 150, y 151, y 152, y 153, y 154, y 155, y 156, y 157, y 158, y 159, y 160, y 161, y 162, y 163, y 164, y 165, y 166, y 167, y 168, y 169, y 170, y 171, y 172, y 173, y 174, y 175, y 176, y 177, y 178, y 179, y 180, y 181, y 182, y 183, y 184, y 185, y 186, y 187, y 188, y 189, y 190, y 191, y 192, y 193, y 194, y 195, y 196, y 197, y 198, y 199, y 200, y 201, y 202, y 203, y 204, y 205, y 206, y 207, y 208, y 209, y 210, y 211, y 212, y 213], []⟩ wr := by
  conv => arg 2; whnf
  have HIN := Lib.hid hin
  have HNL := Lib.hid hnl
  clear hin hnl
  obtain ⟨A, hA⟩ : ∃ A, l[k]? = some A := ⟨_, List.getElem?_eq_getElem (by rw [← HNL.out]; exact hlt)⟩
  obtain ⟨aa, oa, rfl, haa, hra⟩ := HIN.out.read (by rw [← HNL.out]; omega)
  have HAR := Lib.hid (hra k A hA)
  have HAI := Lib.hid (HIN.out.ins k A hA)
  have HAA := Lib.hid haa
  clear hra haa
  obtain rfl : A = A0 := by rw [hA0] at hA; exact (Option.some.inj hA).symm
  clear hA hA0
  obtain ⟨adm, capm, rfl, _⟩ := P.out.lp
  have hn64 := P.out.off.len
  rw [ctO_len] at hn64
  obtain ⟨adh, caph, rfl, hbin⟩ := P.out.bp (by omega)
  have HBIN := Lib.hid hbin
  clear hbin
  obtain ⟨N, hN⟩ : ∃ N, N = ls.length := ⟨_, rfl⟩
  rw [← hN] at P hn64 HBIN ⊢
  have HN := Lib.hid hN
  clear hN
  have q0 : (0 : Int) ≤ (k : Int) := by omega
  have q1 : (k : Int) < (n : Int) := by omega
  go_wp2_with (first | (with_reducible refine stop_load (t := 70) ?_) | (with_reducible refine stop_store (t := 70) ?_) | (with_reducible refine stop_load (t := 72) ?_) | (with_reducible refine stop_store (t := 72) ?_) | (with_reducible refine stop_build (t := 70) ?_))
  (with_reducible refine ⟨?_⟩); (with_reducible refine at_any ?_ ?_); (focus go_simp); refine fun K0 hK => ld_ar _ aa (oa + k * 6) A rfl rfl (fun j u hu => (Below.cell (p := ⟨aa, oa + k * 6 + j, none⟩) P.out.ext HAA.out).trans (HAR.out j u hu)) (hK _ _ ?_)
  clear hK
  go_wp2_with (first | (with_reducible refine stop_load (t := 70) ?_) | (with_reducible refine stop_store (t := 70) ?_) | (with_reducible refine stop_load (t := 72) ?_) | (with_reducible refine stop_store (t := 72) ?_) | (with_reducible refine stop_build (t := 70) ?_))
  (with_reducible refine ⟨?_⟩); (with_reducible refine at_any ?_ ?_); (focus go_simp); refine fun K0 hK => st_ak _ _ wr.heap.size A rfl rfl rfl (Bk.new rfl _ _) (by rfl) (fun w2 hd9 ho => hK _ _ ?_)
  clear hK
  have xx : Ex wr w2 := ho.below wr.heap.size (Nat.le_refl _) wr (Ex.alloc wr _)
  have PX := P
  replace P := Lib.hid (P.out.ex xx)
  obtain ⟨g, hg⟩ : ∃ g, g = wr.heap.size := ⟨_, rfl⟩
  rw [← hg] at hd9 ⊢
  have HGA := Lib.hid hd9
  have XW := Lib.hid xx
  have c0 : w2.cell? ⟨g, 0, none⟩ = some (.int .i64 A.kind) := hd9.cell 0
  have c1 : w2.cell? ⟨g, 1, none⟩ = some (.int .i64 A.i) := hd9.cell 1
  clear xx ho hd9 hg PX
  go_wp2_with (first | (with_reducible refine stop_load (t := 70) ?_) | (with_reducible refine stop_store (t := 70) ?_) | (with_reducible refine stop_load (t := 72) ?_) | (with_reducible refine stop_store (t := 72) ?_) | (with_reducible refine stop_build (t := 70) ?_))
  refine (within_any A.i (-1) (N : Int) HAI.out.i (by omega) (by omega) (by omega) w2).mono ?_
  rintro e w3 ⟨j, rfl, hj0, hj1, rfl⟩
  have hj3 : j = -1 ∨ j = (N : Int) ∨ ∃ p : Nat, j = (p : Int) ∧ p < N := by
    rcases Int.lt_or_le j 0 with h | h
    · exact Or.inl (by omega)
    · obtain ⟨p, rfl⟩ := Int.eq_ofNat_of_zero_le h
      rcases Nat.lt_or_ge p N with h2 | h2
      · exact Or.inr (Or.inr ⟨p, rfl, h2⟩)
      · exact Or.inr (Or.inl (by omega))
  clear hj0 hj1
  rw [hkind] at c0
  clear hkind
  rcases hj3 with rfl | rfl | ⟨p, rfl, hp⟩
  · have r0 : ¬ (0 : Int) ≤ (-1 : Int) := by decide
    go_wp2_with (first | (with_reducible refine stop_load (t := 70) ?_) | (with_reducible refine stop_store (t := 70) ?_) | (with_reducible refine stop_load (t := 72) ?_) | (with_reducible refine stop_store (t := 72) ?_) | (with_reducible refine stop_build (t := 70) ?_))
    refine (double_none O (ctO ls) (-1) w2 P.out.off (Or.inl (by decide))).mono ?_
    rintro e w5 ⟨rfl, hof, hft⟩
    replace P := Lib.hid (P.out.ft hft hof)
    clear hof hft
    go_wp2_with (first | (with_reducible refine stop_load (t := 70) ?_) | (with_reducible refine stop_store (t := 70) ?_) | (with_reducible refine stop_load (t := 72) ?_) | (with_reducible refine stop_store (t := 72) ?_) | (with_reducible refine stop_build (t := 70) ?_))
    refine (same_st P.out).mono ?_
    rintro e wz ⟨rfl, xx⟩
    replace P := Lib.hid (P.out.ex xx)
    clear xx
    go_wp2_with (first | (with_reducible refine stop_load (t := 70) ?_) | (with_reducible refine stop_store (t := 70) ?_) | (with_reducible refine stop_load (t := 72) ?_) | (with_reducible refine stop_store (t := 72) ?_) | (with_reducible refine stop_build (t := 70) ?_))
    refine ⟨⟨_, _, k + 1, ls, ⟨by omega, P⟩, rfl, rfl, rfl, rfl, rfl, rfl, rfl, rfl, rfl⟩, by simp [p21M, intOf]; omega⟩
  · have r0 : (0 : Int) ≤ (N : Int) := by omega
    have r1 : ¬ (N : Int) < (N : Int) := by omega
    go_wp2_with (first | (with_reducible refine stop_load (t := 70) ?_) | (with_reducible refine stop_store (t := 70) ?_) | (with_reducible refine stop_load (t := 72) ?_) | (with_reducible refine stop_store (t := 72) ?_) | (with_reducible refine stop_build (t := 70) ?_))
    refine (double_none O (ctO ls) (N : Int) w2 P.out.off (Or.inr (by rw [ctO_len, ← HN.out]; omega))).mono ?_
    rintro e w5 ⟨rfl, hof, hft⟩
    replace P := Lib.hid (P.out.ft hft hof)
    clear hof hft
    go_wp2_with (first | (with_reducible refine stop_load (t := 70) ?_) | (with_reducible refine stop_store (t := 70) ?_) | (with_reducible refine stop_load (t := 72) ?_) | (with_reducible refine stop_store (t := 72) ?_) | (with_reducible refine stop_build (t := 70) ?_))
    refine (same_st P.out).mono ?_
    rintro e wz ⟨rfl, xx⟩
    replace P := Lib.hid (P.out.ex xx)
    clear xx
    go_wp2_with (first | (with_reducible refine stop_load (t := 70) ?_) | (with_reducible refine stop_store (t := 70) ?_) | (with_reducible refine stop_load (t := 72) ?_) | (with_reducible refine stop_store (t := 72) ?_) | (with_reducible refine stop_build (t := 70) ?_))
    refine ⟨⟨_, _, k + 1, ls, ⟨by omega, P⟩, rfl, rfl, rfl, rfl, rfl, rfl, rfl, rfl, rfl⟩, by simp [p21M, intOf]; omega⟩
  · have r0 : (0 : Int) ≤ (p : Int) := by omega
    have r1 : (p : Int) < (N : Int) := by omega
    obtain ⟨⟨b, z⟩, hpx⟩ : ∃ x, ls[p]? = some x := ⟨_, List.getElem?_eq_getElem (by rw [← HN.out]; exact hp)⟩
    have HCX : Hid ((ctO ls)[p]? = some (b, z.ct)) := Lib.hid (by unfold ctO; rw [List.getElem?_map, hpx]; rfl)
    cases b
    · have HPX := Lib.hid hpx
      obtain ⟨ah, oh, hadh, hlh, hch⟩ := HBIN.out.2 (by omega)
      subst hadh
      have cb : w2.cell? ⟨ah, oh + p, none⟩ = some (.bool false) := by
        refine (Below.cell (p := ⟨ah, oh + p, none⟩) XW.out hlh).trans ((hch p hp).trans ?_)
        show some (Value.bool ((ls.map (·.1)).getD p false)) = _
        rw [List.getD_eq_getElem?_getD, List.getElem?_map, hpx]; rfl
      have HCB := Lib.hid cb
      have HLH := Lib.hid (Nat.lt_of_lt_of_le hlh XW.out.sz)
      clear hch hlh cb
      clear hpx
      go_wp2_with (first | (with_reducible refine stop_load (t := 70) ?_) | (with_reducible refine stop_store (t := 70) ?_) | (with_reducible refine stop_load (t := 72) ?_) | (with_reducible refine stop_store (t := 72) ?_) | (with_reducible refine stop_build (t := 70) ?_))
      have HDB := Lib.hid (double_any O (ctO ls) p false z.ct w2 P.out.off HCX.out)
      by_cases h64 : N < 64
      · have h64i : (N : Int) < 64 := by omega
        rw [ctO_len, ← HN.out, decide_eq_true h64, if_pos rfl] at HDB
        refine (HDB.out).mono ?_
        rintro e w5 ⟨rfl, hof, hft⟩
        replace P := Lib.hid (P.out.ft hft hof)
        clear hof hft
        clear c0 c1 XW HCB HLH HBIN HGA HDB
        obtain ⟨adm2, capm2, hme, hlp⟩ := P.out.lp
        rw [← HN.out] at hme
        cases hme
        obtain ⟨am, om, hadm, hlm, hrm⟩ := hlp.read (by rw [List.length_map, ← HN.out]; omega)
        subst hadm
        have HZR := Lib.hid (hrm p z (by rw [List.getElem?_map, HPX.out]; rfl))
        have HAM := Lib.hid hlm
        have HZB := Lib.hid (P.out.lets p _ HPX.out)
        clear hlp hlm hrm
        go_wp2_with (first | (with_reducible refine stop_load (t := 70) ?_) | (with_reducible refine stop_store (t := 70) ?_) | (with_reducible refine stop_load (t := 72) ?_) | (with_reducible refine stop_store (t := 72) ?_) | (with_reducible refine stop_build (t := 70) ?_))
        obtain ⟨-, nlm, clm, xlm, RM⟩ := own_form P.out.mrow
        obtain ⟨-, nlh, clh, xlh, RH⟩ := own_form P.out.hrow
        rw [← HN.out] at clm RM clh RH
        have HRM := Lib.hid RM
        have HRH := Lib.hid RH
        have NLM := Lib.hid nlm
        have NLH := Lib.hid nlh
        clear RM RH nlm nlh
        go_wp2_with fail
        obtain ⟨T, hT⟩ : ∃ T : List (Rv w5.heap.size), T = [.emp 70, .is (.slice (some ⟨am, om, none⟩) N capm), .own 70 4 (N) (mC ls), .is (.slice (some ⟨am, om, none⟩) N capm), .is (.int .i64 p), .is (.pointer (some ⟨am, om + p * 4, none⟩)), .is (z.V), .one 70 (z.C), .own 70 4 (N + 1) (mC ls ++ z.C), .emp 4, .is (.slice (some ⟨ah, oh, none⟩) N caph), .own 4 1 (N) (hC ls), .one 4 ([.bool false]), .own 4 1 (N + 1) (hC ls ++ [.bool false]), .own 70 4 (N + 1) (mC ls ++ z.C), .own 4 1 (N + 1) (hC ls ++ [.bool false])] := ⟨_, rfl⟩
        have HTY : T.map Rv.ty = ([70, 0, 70, 0, 0, 0, 0, 70, 70, 4, 0, 4, 4, 4, 70, 4] : List Nat) := by rw [hT]; rfl
        refine wp_region_gen (JR w5.heap.size w5 [70, 4] T ([70, 0, 70, 0, 0, 0, 0, 70, 70, 4, 0, 4, 4, 4, 70, 4] : List Nat) ([some 2, none, some 8, none, none, none, none, some 8, none, some 11, none, some 13, some 13, none, none, none] : List (Option Nat)) ([(14, 8), (15, 13)] : List (Nat × Nat))) (by kernel_rfl) (by kernel_rfl) (by kernel_rfl) (fitB_spec (by kernel_rfl)) (fun listed f h => JR.start (Nat.le_refl _) listed f h) ?_ ?_
        · intro i o ho
          have hi : i < 16 := (Array.getElem?_eq_some_iff.1 ho).1
          have hi' : i = 0 ∨ i = 1 ∨ i = 2 ∨ i = 3 ∨ i = 4 ∨ i = 5 ∨ i = 6 ∨ i = 7 ∨ i = 8 ∨ i = 9 ∨ i = 10 ∨ i = 11 ∨ i = 12 ∨ i = 13 ∨ i = 14 ∨ i = 15 := by omega
          clear hi
          rcases hi' with rfl | rfl | rfl | rfl | rfl | rfl | rfl | rfl | rfl | rfl | rfl | rfl | rfl | rfl | rfl | rfl
          all_goals (simp only [List.getElem?_toArray, List.getElem?_cons_zero, List.getElem?_cons_succ, Option.some.injEq] at ho; subst ho; intro listed f a w2 hJ hsz hls hun hdep hout hlat)
          · rw [if_pos (by rfl)]
            intro K hK
            have hord : ∀ x ∈ ([(14, 8), (15, 13)] : List (Nat × Nat)), x.1 = 0 → listed.getD x.2 false = true := (by intro x hx he; simp only [List.mem_cons, List.not_mem_nil, or_false] at hx; rcases hx with rfl | rfl; all_goals first | (exact absurd he (by decide)) | assumption)
            clear hsz hdep hout hlat
            go_simp
            exact hK _ _ (hJ.plain HTY (by rw [hls]; decide) (Ex.alloc _ _) (by rw [hT]; exact ⟨_, rfl, hJ.lo, Bk.new rfl _ _⟩) hord)
          · rw [if_pos (by rfl)]
            intro K hK
            have q6 := hlat 6 14 _ rfl rfl ⟨⟨1, .phase⟩, by simp, rfl, rfl⟩
            have hord : ∀ x ∈ ([(14, 8), (15, 13)] : List (Nat × Nat)), x.1 = 1 → listed.getD x.2 false = true := (by intro x hx he; simp only [List.mem_cons, List.not_mem_nil, or_false] at hx; rcases hx with rfl | rfl; all_goals first | (exact absurd he (by decide)) | assumption)
            refine wp_mv _ rfl (hK _ _ ?_)
            rw [show a.eval (.tmp 6) = .slice (some ⟨am, om, none⟩) N capm from q6]
            exact hJ.plain HTY (by rw [hls]; decide) (Ex.refl _) (by rw [hT]; rfl) hord
          · rw [if_pos (by rfl)]
            intro K hK
            have dd156 := hdep ⟨0, .data⟩ (by simp) rfl
            have q156 := dd156.2 _ rfl _ rfl
            have h156 := hJ.vals 0 dd156.1 (fun c hc => by have hc : some 2 = some c := hc; cases hc; exact hun)
            rw [hT] at h156
            have h156 : Emp w5.heap.size w2 70 (f 0) := h156
            clear dd156
            have dd157 := hdep ⟨1, .data⟩ (by simp) rfl
            have q157 := dd157.2 _ rfl _ rfl
            have h157 := hJ.vals 1 dd157.1 (fun c hc => by have hc : none = some c := hc; cases hc)
            rw [hT] at h157
            rw [show f 1 = .slice (some ⟨am, om, none⟩) N capm from h157] at q157
            clear h157
            clear dd157
            have hord : ∀ x ∈ ([(14, 8), (15, 13)] : List (Nat × Nat)), x.1 = 2 → listed.getD x.2 false = true := (by intro x hx he; simp only [List.mem_cons, List.not_mem_nil, or_false] at hx; rcases hx with rfl | rfl; all_goals first | (exact absurd he (by decide)) | assumption)
            exact wp_rd0 (.tmp 156) (.tmp 157) 78 70 zeroLt.V 4 48 rfl Try.underlying78 Try.infoLt rfl (by decide) w5.heap.size _ q156 h156 hJ.lo (some ⟨am, om, none⟩) (N) (capm) _ q157 (HRM.out.ext hJ.ext.below) clm NLM.out (mC_one ls) (by omega) (by omega) (fun v' w' r1 r2 => hK _ _ (hJ.plain HTY (by rw [hls]; decide) r2 (by rw [hT]; exact r1) hord))
          · rw [if_pos (by rfl)]
            intro K hK
            have q6 := hlat 6 14 _ rfl rfl ⟨⟨3, .phase⟩, by simp, rfl, rfl⟩
            have hord : ∀ x ∈ ([(14, 8), (15, 13)] : List (Nat × Nat)), x.1 = 3 → listed.getD x.2 false = true := (by intro x hx he; simp only [List.mem_cons, List.not_mem_nil, or_false] at hx; rcases hx with rfl | rfl; all_goals first | (exact absurd he (by decide)) | assumption)
            refine wp_mv _ rfl (hK _ _ ?_)
            rw [show a.eval (.tmp 6) = .slice (some ⟨am, om, none⟩) N capm from q6]
            exact hJ.plain HTY (by rw [hls]; decide) (Ex.refl _) (by rw [hT]; rfl) hord
          · rw [if_pos (by rfl)]
            intro K hK
            have q10 := hout 10 (outB_spec (by kernel_rfl))
            have hord : ∀ x ∈ ([(14, 8), (15, 13)] : List (Nat × Nat)), x.1 = 4 → listed.getD x.2 false = true := (by intro x hx he; simp only [List.mem_cons, List.not_mem_nil, or_false] at hx; rcases hx with rfl | rfl; all_goals first | (exact absurd he (by decide)) | assumption)
            refine wp_mv _ rfl (hK _ _ ?_)
            rw [show a.eval (.tmp 10) = .int .i64 p from q10]
            exact hJ.plain HTY (by rw [hls]; decide) (Ex.refl _) (by rw [hT]; rfl) hord
          · rw [if_pos (by rfl)]
            intro K hK
            have dd159 := hdep ⟨3, .data⟩ (by simp) rfl
            have q159 := dd159.2 _ rfl _ rfl
            have h159 := hJ.vals 3 dd159.1 (fun c hc => by have hc : none = some c := hc; cases hc)
            rw [hT] at h159
            rw [show f 3 = .slice (some ⟨am, om, none⟩) N capm from h159] at q159
            clear h159
            clear dd159
            have dd160 := hdep ⟨4, .data⟩ (by simp) rfl
            have q160 := dd160.2 _ rfl _ rfl
            have h160 := hJ.vals 4 dd160.1 (fun c hc => by have hc : none = some c := hc; cases hc)
            rw [hT] at h160
            rw [show f 4 = .int .i64 p from h160] at q160
            clear h160
            clear dd160
            have hord : ∀ x ∈ ([(14, 8), (15, 13)] : List (Nat × Nat)), x.1 = 5 → listed.getD x.2 false = true := (by intro x hx he; simp only [List.mem_cons, List.not_mem_nil, or_false] at hx; rcases hx with rfl | rfl; all_goals first | (exact absurd he (by decide)) | assumption)
            rw [Array.getD_eq_getD_getElem?] at q159
            rw [Array.getD_eq_getD_getElem?] at q160
            clear hsz hdep hout hlat
            go_simp
            exact hK _ _ (hJ.plain HTY (by rw [hls]; decide) (Ex.refl _) (by rw [hT]; first | rfl | exact congrArg (Value.int .i64) (by omega) | exact congrArg (Value.int .i64) (by rw [wrap64_in _ (by omega)]; omega)) hord)
          · rw [if_pos (by rfl)]
            intro K hK
            have dd161 := hdep ⟨5, .data⟩ (by simp) rfl
            have q161 := dd161.2 _ rfl _ rfl
            have h161 := hJ.vals 5 dd161.1 (fun c hc => by have hc : none = some c := hc; cases hc)
            rw [hT] at h161
            rw [show f 5 = .pointer (some ⟨am, om + p * 4, none⟩) from h161] at q161
            clear h161
            clear dd161
            have hord : ∀ x ∈ ([(14, 8), (15, 13)] : List (Nat × Nat)), x.1 = 6 → listed.getD x.2 false = true := (by intro x hx he; simp only [List.mem_cons, List.not_mem_nil, or_false] at hx; rcases hx with rfl | rfl; all_goals first | (exact absurd he (by decide)) | assumption)
            exact ld_lr (.tmp 161) am (om + p * 4) z rfl q161 (fun j u hu => (Below.cell (p := ⟨am, om + p * 4 + j, none⟩) hJ.ext.below HAM.out).trans (HZR.out j u hu)) (hK _ _ (hJ.plain HTY (by rw [hls]; decide) (Ex.refl _) (by rw [hT]; rfl) hord))
          · rw [if_pos (by rfl)]
            intro K hK
            have dd162 := hdep ⟨6, .data⟩ (by simp) rfl
            have q162 := dd162.2 _ rfl _ rfl
            have h162 := hJ.vals 6 dd162.1 (fun c hc => by have hc : none = some c := hc; cases hc)
            rw [hT] at h162
            rw [show f 6 = z.V from h162] at q162
            clear h162
            clear dd162
            have hord : ∀ x ∈ ([(14, 8), (15, 13)] : List (Nat × Nat)), x.1 = 7 → listed.getD x.2 false = true := (by intro x hx he; simp only [List.mem_cons, List.not_mem_nil, or_false] at hx; rcases hx with rfl | rfl; all_goals first | (exact absurd he (by decide)) | assumption)
            exact wp_bsl (.tmp 162) z rfl q162 (hK _ _ (hJ.plain HTY (by rw [hls]; decide) (Ex.alloc _ _) (by rw [hT]; exact ⟨_, rfl, Bk.new rfl _ _⟩) hord))
          · rw [if_pos (by rfl)]
            intro K hK
            have dd158 := hdep ⟨2, .data⟩ (by simp) rfl
            have q158 := dd158.2 _ rfl _ rfl
            have h158 := hJ.vals 2 dd158.1 (fun c hc => by have hc : some 8 = some c := hc; cases hc; exact hun)
            rw [hT] at h158
            have h158 : w2.ownsRow w5.heap.size 70 4 (f 2) (N) (mC ls) := h158
            obtain ⟨v158, e158⟩ : ∃ v, v = f 2 := ⟨_, rfl⟩
            rw [← e158] at h158 q158
            clear e158
            clear dd158
            have dd163 := hdep ⟨7, .data⟩ (by simp) rfl
            have q163 := dd163.2 _ rfl _ rfl
            have h163 := hJ.vals 7 dd163.1 (fun c hc => by have hc : some 8 = some c := hc; cases hc; exact hun)
            rw [hT] at h163
            have h163 : One w2 70 (z.C) (f 7) := h163
            clear dd163
            have hord : ∀ x ∈ ([(14, 8), (15, 13)] : List (Nat × Nat)), x.1 = 8 → listed.getD x.2 false = true := (by intro x hx he; simp only [List.mem_cons, List.not_mem_nil, or_false] at hx; rcases hx with rfl | rfl; all_goals first | (exact absurd he (by decide)) | assumption)
            obtain ⟨adx, ex, nx, rx⟩ := h163.rd
            rw [ex] at q163
            refine wp_rd (.tmp 158) (.tmp 163) 78 70 zeroLt.V 4 48 rfl Try.underlying78 Try.infoLt rfl (by decide) w5.heap.size _ _ _ q158 h158 hJ.lo adx 1 1 _ q163 rx (Nat.le_refl _) (fun h => absurd (nx h) (by decide)) (Lt.C_one z) (by omega) (by omega) (fun v' w' r1 r2 => hK _ _ (hJ.next HTY (by rw [hls]; decide) [70] (by decide) (by decide) r2 (by rw [hT]; exact r1) ?_ hord))
            intro j hj hin hl
            have hm := mem_tys (by decide) hin
            rw [show (List.range (List.length ([70, 0, 70, 0, 0, 0, 0, 70, 70, 4, 0, 4, 4, 4, 70, 4] : List Nat))).filter (fun j => List.getD ([70, 0, 70, 0, 0, 0, 0, 70, 70, 4, 0, 4, 4, 4, 70, 4] : List Nat) j 0 == 70) = [0, 2, 7, 8, 14] from by decide] at hm
            simp only [List.mem_cons, List.not_mem_nil, or_false] at hm
            rcases hm with rfl | rfl | rfl | rfl | rfl
            · exact ⟨2, rfl, Or.inr (hdep ⟨2, .data⟩ (by simp) rfl).1⟩
            · exact ⟨8, rfl, Or.inl rfl⟩
            · exact ⟨8, rfl, Or.inl rfl⟩
            · exact absurd rfl hj
            · exact absurd (hJ.ord (14, 8) (by simp) hl) (by rw [hun]; decide)
          · rw [if_pos (by rfl)]
            intro K hK
            have hord : ∀ x ∈ ([(14, 8), (15, 13)] : List (Nat × Nat)), x.1 = 9 → listed.getD x.2 false = true := (by intro x hx he; simp only [List.mem_cons, List.not_mem_nil, or_false] at hx; rcases hx with rfl | rfl; all_goals first | (exact absurd he (by decide)) | assumption)
            clear hsz hdep hout hlat
            go_simp
            exact hK _ _ (hJ.plain HTY (by rw [hls]; decide) (Ex.alloc _ _) (by rw [hT]; exact ⟨_, rfl, hJ.lo, Bk.new rfl _ _⟩) hord)
          · rw [if_pos (by rfl)]
            intro K hK
            have q7 := hlat 7 15 _ rfl rfl ⟨⟨10, .phase⟩, by simp, rfl, rfl⟩
            have hord : ∀ x ∈ ([(14, 8), (15, 13)] : List (Nat × Nat)), x.1 = 10 → listed.getD x.2 false = true := (by intro x hx he; simp only [List.mem_cons, List.not_mem_nil, or_false] at hx; rcases hx with rfl | rfl; all_goals first | (exact absurd he (by decide)) | assumption)
            refine wp_mv _ rfl (hK _ _ ?_)
            rw [show a.eval (.tmp 7) = .slice (some ⟨ah, oh, none⟩) N caph from q7]
            exact hJ.plain HTY (by rw [hls]; decide) (Ex.refl _) (by rw [hT]; rfl) hord
          · rw [if_pos (by rfl)]
            intro K hK
            have dd165 := hdep ⟨9, .data⟩ (by simp) rfl
            have q165 := dd165.2 _ rfl _ rfl
            have h165 := hJ.vals 9 dd165.1 (fun c hc => by have hc : some 11 = some c := hc; cases hc; exact hun)
            rw [hT] at h165
            have h165 : Emp w5.heap.size w2 4 (f 9) := h165
            clear dd165
            have dd166 := hdep ⟨10, .data⟩ (by simp) rfl
            have q166 := dd166.2 _ rfl _ rfl
            have h166 := hJ.vals 10 dd166.1 (fun c hc => by have hc : none = some c := hc; cases hc)
            rw [hT] at h166
            rw [show f 10 = .slice (some ⟨ah, oh, none⟩) N caph from h166] at q166
            clear h166
            clear dd166
            have hord : ∀ x ∈ ([(14, 8), (15, 13)] : List (Nat × Nat)), x.1 = 11 → listed.getD x.2 false = true := (by intro x hx he; simp only [List.mem_cons, List.not_mem_nil, or_false] at hx; rcases hx with rfl | rfl; all_goals first | (exact absurd he (by decide)) | assumption)
            exact wp_rd0 (.tmp 165) (.tmp 166) 85 4 (.bool false) 1 1 rfl Try.underlying85 Try.infoBool rfl (by decide) w5.heap.size _ q165 h165 hJ.lo (some ⟨ah, oh, none⟩) (N) (caph) _ q166 (HRH.out.ext hJ.ext.below) clh NLH.out (hC_one ls) (by omega) (by omega) (fun v' w' r1 r2 => hK _ _ (hJ.plain HTY (by rw [hls]; decide) r2 (by rw [hT]; exact r1) hord))
          · rw [if_pos (by rfl)]
            intro K hK
            have hord : ∀ x ∈ ([(14, 8), (15, 13)] : List (Nat × Nat)), x.1 = 12 → listed.getD x.2 false = true := (by intro x hx he; simp only [List.mem_cons, List.not_mem_nil, or_false] at hx; rcases hx with rfl | rfl; all_goals first | (exact absurd he (by decide)) | assumption)
            clear hsz hdep hout hlat
            go_simp
            exact hK _ _ (hJ.plain HTY (by rw [hls]; decide) (Ex.alloc _ _) (by rw [hT]; exact ⟨_, rfl, Bk.new rfl _ _⟩) hord)
          · rw [if_pos (by rfl)]
            intro K hK
            have dd167 := hdep ⟨11, .data⟩ (by simp) rfl
            have q167 := dd167.2 _ rfl _ rfl
            have h167 := hJ.vals 11 dd167.1 (fun c hc => by have hc : some 13 = some c := hc; cases hc; exact hun)
            rw [hT] at h167
            have h167 : w2.ownsRow w5.heap.size 4 1 (f 11) (N) (hC ls) := h167
            obtain ⟨v167, e167⟩ : ∃ v, v = f 11 := ⟨_, rfl⟩
            rw [← e167] at h167 q167
            clear e167
            clear dd167
            have dd168 := hdep ⟨12, .data⟩ (by simp) rfl
            have q168 := dd168.2 _ rfl _ rfl
            have h168 := hJ.vals 12 dd168.1 (fun c hc => by have hc : some 13 = some c := hc; cases hc; exact hun)
            rw [hT] at h168
            have h168 : One w2 4 ([.bool false]) (f 12) := h168
            clear dd168
            have hord : ∀ x ∈ ([(14, 8), (15, 13)] : List (Nat × Nat)), x.1 = 13 → listed.getD x.2 false = true := (by intro x hx he; simp only [List.mem_cons, List.not_mem_nil, or_false] at hx; rcases hx with rfl | rfl; all_goals first | (exact absurd he (by decide)) | assumption)
            obtain ⟨adx, ex, nx, rx⟩ := h168.rd
            rw [ex] at q168
            refine wp_rd (.tmp 167) (.tmp 168) 85 4 (.bool false) 1 1 rfl Try.underlying85 Try.infoBool rfl (by decide) w5.heap.size _ _ _ q167 h167 hJ.lo adx 1 1 _ q168 rx (Nat.le_refl _) (fun h => absurd (nx h) (by decide)) (fun u hu => by rw [List.mem_singleton.1 hu]; rfl) (by omega) (by omega) (fun v' w' r1 r2 => hK _ _ (hJ.next HTY (by rw [hls]; decide) [4] (by decide) (by decide) r2 (by rw [hT]; exact r1) ?_ hord))
            intro j hj hin hl
            have hm := mem_tys (by decide) hin
            rw [show (List.range (List.length ([70, 0, 70, 0, 0, 0, 0, 70, 70, 4, 0, 4, 4, 4, 70, 4] : List Nat))).filter (fun j => List.getD ([70, 0, 70, 0, 0, 0, 0, 70, 70, 4, 0, 4, 4, 4, 70, 4] : List Nat) j 0 == 4) = [9, 11, 12, 13, 15] from by decide] at hm
            simp only [List.mem_cons, List.not_mem_nil, or_false] at hm
            rcases hm with rfl | rfl | rfl | rfl | rfl
            · exact ⟨11, rfl, Or.inr (hdep ⟨11, .data⟩ (by simp) rfl).1⟩
            · exact ⟨13, rfl, Or.inl rfl⟩
            · exact ⟨13, rfl, Or.inl rfl⟩
            · exact absurd rfl hj
            · exact absurd (hJ.ord (15, 13) (by simp) hl) (by rw [hun]; decide)
          · rw [if_pos (by rfl)]
            intro K hK
            have dd164 := hdep ⟨8, .data⟩ (by simp) rfl
            have q164 := dd164.2 _ rfl _ rfl
            have h164 := hJ.vals 8 dd164.1 (fun c hc => by have hc : none = some c := hc; cases hc)
            rw [hT] at h164
            have h164 : w2.ownsRow w5.heap.size 70 4 (f 8) (N + 1) (mC ls ++ z.C) := h164
            obtain ⟨v164, e164⟩ : ∃ v, v = f 8 := ⟨_, rfl⟩
            rw [← e164] at h164 q164
            clear e164
            clear dd164
            have hl8 := (hdep ⟨8, .data⟩ (by simp) rfl).1
            have hord : ∀ x ∈ ([(14, 8), (15, 13)] : List (Nat × Nat)), x.1 = 14 → listed.getD x.2 false = true := (by intro x hx he; simp only [List.mem_cons, List.not_mem_nil, or_false] at hx; rcases hx with rfl | rfl; all_goals first | (exact absurd he (by decide)) | assumption)
            rw [Array.getD_eq_getD_getElem?] at q164
            clear hsz hdep hout hlat
            go_simp
            exact hK _ _ (hJ.plain HTY (by rw [hls]; decide) (Ex.refl _) (by rw [hT]; exact h164) hord)
          · rw [if_pos (by rfl)]
            intro K hK
            have dd169 := hdep ⟨13, .data⟩ (by simp) rfl
            have q169 := dd169.2 _ rfl _ rfl
            have h169 := hJ.vals 13 dd169.1 (fun c hc => by have hc : none = some c := hc; cases hc)
            rw [hT] at h169
            have h169 : w2.ownsRow w5.heap.size 4 1 (f 13) (N + 1) (hC ls ++ [.bool false]) := h169
            obtain ⟨v169, e169⟩ : ∃ v, v = f 13 := ⟨_, rfl⟩
            rw [← e169] at h169 q169
            clear e169
            clear dd169
            have hl13 := (hdep ⟨13, .data⟩ (by simp) rfl).1
            have hord : ∀ x ∈ ([(14, 8), (15, 13)] : List (Nat × Nat)), x.1 = 15 → listed.getD x.2 false = true := (by intro x hx he; simp only [List.mem_cons, List.not_mem_nil, or_false] at hx; rcases hx with rfl | rfl; all_goals first | (exact absurd he (by decide)) | assumption)
            rw [Array.getD_eq_getD_getElem?] at q169
            clear hsz hdep hout hlat
            go_simp
            exact hK _ _ (hJ.plain HTY (by rw [hls]; decide) (Ex.refl _) (by rw [hT]; exact h169) hord)
        · intro listed f w2 hall hJ
          have o14 := hJ.vals 14 (hall 14 (by simp)) (fun c hc => by have hc : none = some c := hc; cases hc)
          rw [hT] at o14
          have o14 : w2.ownsRow w5.heap.size 70 4 (f 14) (N + 1) (mC ls ++ z.C) := o14
          have o15 := hJ.vals 15 (hall 15 (by simp)) (fun c hc => by have hc : none = some c := hc; cases hc)
          rw [hT] at o15
          have o15 : w2.ownsRow w5.heap.size 4 1 (f 15) (N + 1) (hC ls ++ [.bool false]) := o15
          have xw : Ex w5 w2 := hJ.ext.below
          simp only [putAll, Act.put, List.setIfInBounds_toArray, List.set_cons_zero, List.set_cons_succ, Nat.zero_add, Nat.reduceAdd]
          generalize f 14 = nm at o14 ⊢
          generalize f 15 = nh at o15 ⊢
          clear hJ hall hT HTY
          generalize f 0 = y0
          generalize f 1 = y1
          generalize f 2 = y2
          generalize f 3 = y3
          generalize f 4 = y4
          generalize f 5 = y5
          generalize f 6 = y6
          generalize f 7 = y7
          generalize f 8 = y8
          generalize f 9 = y9
          generalize f 10 = y10
          generalize f 11 = y11
          generalize f 12 = y12
          generalize f 13 = y13
          have hel : (ls ++ [(false, z)]).length = N + 1 := by rw [List.length_append, ← HN.out]; rfl
          replace P := Lib.hid (P.out.rows xw w5.heap.size P.out.ext.sz o14 o15 hel hel (mC_app ls (false, z)) (hC_app ls (false, z)) (fun x hx => by
                      rcases List.mem_append.1 hx with hx | hx
                      · exact Or.inl hx
                      · rw [List.mem_singleton.1 hx]; exact Or.inr HZB.out))
          rw [show ctO ls ++ [(false, z.ct)] = ctO (ls ++ [(false, z)]) from by unfold ctO; rw [List.map_append]; rfl] at P
          clear o14 o15 xw hel
          go_wp2_with (first | (with_reducible refine stop_load (t := 70) ?_) | (with_reducible refine stop_store (t := 70) ?_) | (with_reducible refine stop_load (t := 72) ?_) | (with_reducible refine stop_store (t := 72) ?_) | (with_reducible refine stop_build (t := 70) ?_))
          refine (same_st P.out).mono ?_
          rintro e wz ⟨rfl, xx⟩
          replace P := Lib.hid (P.out.ex xx)
          clear xx
          go_wp2_with (first | (with_reducible refine stop_load (t := 70) ?_) | (with_reducible refine stop_store (t := 70) ?_) | (with_reducible refine stop_load (t := 72) ?_) | (with_reducible refine stop_store (t := 72) ?_) | (with_reducible refine stop_build (t := 70) ?_))
          refine ⟨⟨_, _, k + 1, ls ++ [(false, z)], ⟨by omega, P⟩, rfl, rfl, rfl, rfl, rfl, rfl, rfl, rfl, rfl⟩, by simp [p21M, intOf]; omega⟩
      · have h64i : ¬ (N : Int) < 64 := by omega
        rw [ctO_len, ← HN.out, decide_eq_false h64, if_neg (by simp)] at HDB
        refine (HDB.out).mono ?_
        rintro e w5 ⟨rfl, hof, hft⟩
        replace P := Lib.hid (P.out.ft hft hof)
        clear hof hft
        go_wp2_with (first | (with_reducible refine stop_load (t := 70) ?_) | (with_reducible refine stop_store (t := 70) ?_) | (with_reducible refine stop_load (t := 72) ?_) | (with_reducible refine stop_store (t := 72) ?_) | (with_reducible refine stop_build (t := 70) ?_))
        refine (same_st P.out).mono ?_
        rintro e wz ⟨rfl, xx⟩
        replace P := Lib.hid (P.out.ex xx)
        clear xx
        go_wp2_with (first | (with_reducible refine stop_load (t := 70) ?_) | (with_reducible refine stop_store (t := 70) ?_) | (with_reducible refine stop_load (t := 72) ?_) | (with_reducible refine stop_store (t := 72) ?_) | (with_reducible refine stop_build (t := 70) ?_))
        refine ⟨⟨_, _, k + 1, ls, ⟨by omega, P⟩, rfl, rfl, rfl, rfl, rfl, rfl, rfl, rfl, rfl⟩, by simp [p21M, intOf]; omega⟩
    · have HPX := Lib.hid hpx
      obtain ⟨ah, oh, hadh, hlh, hch⟩ := HBIN.out.2 (by omega)
      subst hadh
      have cb : w2.cell? ⟨ah, oh + p, none⟩ = some (.bool true) := by
        refine (Below.cell (p := ⟨ah, oh + p, none⟩) XW.out hlh).trans ((hch p hp).trans ?_)
        show some (Value.bool ((ls.map (·.1)).getD p false)) = _
        rw [List.getD_eq_getElem?_getD, List.getElem?_map, hpx]; rfl
      have HCB := Lib.hid cb
      have HLH := Lib.hid (Nat.lt_of_lt_of_le hlh XW.out.sz)
      clear hch hlh cb
      clear hpx
      go_wp2_with (first | (with_reducible refine stop_load (t := 70) ?_) | (with_reducible refine stop_store (t := 70) ?_) | (with_reducible refine stop_load (t := 72) ?_) | (with_reducible refine stop_store (t := 72) ?_) | (with_reducible refine stop_build (t := 70) ?_))
      have HDB := Lib.hid (double_any O (ctO ls) p true z.ct w2 P.out.off HCX.out)
      by_cases h64 : N < 64
      · have h64i : (N : Int) < 64 := by omega
        rw [ctO_len, ← HN.out, decide_eq_true h64, if_pos rfl] at HDB
        refine (HDB.out).mono ?_
        rintro e w5 ⟨rfl, hof, hft⟩
        replace P := Lib.hid (P.out.ft hft hof)
        clear hof hft
        clear c0 c1 XW HCB HLH HBIN HGA HDB
        obtain ⟨adm2, capm2, hme, hlp⟩ := P.out.lp
        rw [← HN.out] at hme
        cases hme
        obtain ⟨am, om, hadm, hlm, hrm⟩ := hlp.read (by rw [List.length_map, ← HN.out]; omega)
        subst hadm
        have HZR := Lib.hid (hrm p z (by rw [List.getElem?_map, HPX.out]; rfl))
        have HAM := Lib.hid hlm
        have HZB := Lib.hid (P.out.lets p _ HPX.out)
        clear hlp hlm hrm
        go_wp2_with (first | (with_reducible refine stop_load (t := 70) ?_) | (with_reducible refine stop_store (t := 70) ?_) | (with_reducible refine stop_load (t := 72) ?_) | (with_reducible refine stop_store (t := 72) ?_) | (with_reducible refine stop_build (t := 70) ?_))
        obtain ⟨-, nlm, clm, xlm, RM⟩ := own_form P.out.mrow
        obtain ⟨-, nlh, clh, xlh, RH⟩ := own_form P.out.hrow
        rw [← HN.out] at clm RM clh RH
        have HRM := Lib.hid RM
        have HRH := Lib.hid RH
        have NLM := Lib.hid nlm
        have NLH := Lib.hid nlh
        clear RM RH nlm nlh
        go_wp2_with fail
        obtain ⟨T, hT⟩ : ∃ T : List (Rv w5.heap.size), T = [.emp 70, .is (.slice (some ⟨am, om, none⟩) N capm), .own 70 4 (N) (mC ls), .is (.slice (some ⟨am, om, none⟩) N capm), .is (.int .i64 p), .is (.pointer (some ⟨am, om + p * 4, none⟩)), .is (z.V), .one 70 (z.C), .own 70 4 (N + 1) (mC ls ++ z.C), .emp 4, .is (.slice (some ⟨ah, oh, none⟩) N caph), .own 4 1 (N) (hC ls), .one 4 ([.bool false]), .own 4 1 (N + 1) (hC ls ++ [.bool false]), .own 70 4 (N + 1) (mC ls ++ z.C), .own 4 1 (N + 1) (hC ls ++ [.bool false])] := ⟨_, rfl⟩
        have HTY : T.map Rv.ty = ([70, 0, 70, 0, 0, 0, 0, 70, 70, 4, 0, 4, 4, 4, 70, 4] : List Nat) := by rw [hT]; rfl
        refine wp_region_gen (JR w5.heap.size w5 [70, 4] T ([70, 0, 70, 0, 0, 0, 0, 70, 70, 4, 0, 4, 4, 4, 70, 4] : List Nat) ([some 2, none, some 8, none, none, none, none, some 8, none, some 11, none, some 13, some 13, none, none, none] : List (Option Nat)) ([(14, 8), (15, 13)] : List (Nat × Nat))) (by kernel_rfl) (by kernel_rfl) (by kernel_rfl) (fitB_spec (by kernel_rfl)) (fun listed f h => JR.start (Nat.le_refl _) listed f h) ?_ ?_
        · intro i o ho
          have hi : i < 16 := (Array.getElem?_eq_some_iff.1 ho).1
          have hi' : i = 0 ∨ i = 1 ∨ i = 2 ∨ i = 3 ∨ i = 4 ∨ i = 5 ∨ i = 6 ∨ i = 7 ∨ i = 8 ∨ i = 9 ∨ i = 10 ∨ i = 11 ∨ i = 12 ∨ i = 13 ∨ i = 14 ∨ i = 15 := by omega
          clear hi
          rcases hi' with rfl | rfl | rfl | rfl | rfl | rfl | rfl | rfl | rfl | rfl | rfl | rfl | rfl | rfl | rfl | rfl
          all_goals (simp only [List.getElem?_toArray, List.getElem?_cons_zero, List.getElem?_cons_succ, Option.some.injEq] at ho; subst ho; intro listed f a w2 hJ hsz hls hun hdep hout hlat)
          · rw [if_pos (by rfl)]
            intro K hK
            have hord : ∀ x ∈ ([(14, 8), (15, 13)] : List (Nat × Nat)), x.1 = 0 → listed.getD x.2 false = true := (by intro x hx he; simp only [List.mem_cons, List.not_mem_nil, or_false] at hx; rcases hx with rfl | rfl; all_goals first | (exact absurd he (by decide)) | assumption)
            clear hsz hdep hout hlat
            go_simp
            exact hK _ _ (hJ.plain HTY (by rw [hls]; decide) (Ex.alloc _ _) (by rw [hT]; exact ⟨_, rfl, hJ.lo, Bk.new rfl _ _⟩) hord)
          · rw [if_pos (by rfl)]
            intro K hK
            have q6 := hlat 6 14 _ rfl rfl ⟨⟨1, .phase⟩, by simp, rfl, rfl⟩
            have hord : ∀ x ∈ ([(14, 8), (15, 13)] : List (Nat × Nat)), x.1 = 1 → listed.getD x.2 false = true := (by intro x hx he; simp only [List.mem_cons, List.not_mem_nil, or_false] at hx; rcases hx with rfl | rfl; all_goals first | (exact absurd he (by decide)) | assumption)
            refine wp_mv _ rfl (hK _ _ ?_)
            rw [show a.eval (.tmp 6) = .slice (some ⟨am, om, none⟩) N capm from q6]
            exact hJ.plain HTY (by rw [hls]; decide) (Ex.refl _) (by rw [hT]; rfl) hord
          · rw [if_pos (by rfl)]
            intro K hK
            have dd156 := hdep ⟨0, .data⟩ (by simp) rfl
            have q156 := dd156.2 _ rfl _ rfl
            have h156 := hJ.vals 0 dd156.1 (fun c hc => by have hc : some 2 = some c := hc; cases hc; exact hun)
            rw [hT] at h156
            have h156 : Emp w5.heap.size w2 70 (f 0) := h156
            clear dd156
            have dd157 := hdep ⟨1, .data⟩ (by simp) rfl
            have q157 := dd157.2 _ rfl _ rfl
            have h157 := hJ.vals 1 dd157.1 (fun c hc => by have hc : none = some c := hc; cases hc)
            rw [hT] at h157
            rw [show f 1 = .slice (some ⟨am, om, none⟩) N capm from h157] at q157
            clear h157
            clear dd157
            have hord : ∀ x ∈ ([(14, 8), (15, 13)] : List (Nat × Nat)), x.1 = 2 → listed.getD x.2 false = true := (by intro x hx he; simp only [List.mem_cons, List.not_mem_nil, or_false] at hx; rcases hx with rfl | rfl; all_goals first | (exact absurd he (by decide)) | assumption)
            exact wp_rd0 (.tmp 156) (.tmp 157) 78 70 zeroLt.V 4 48 rfl Try.underlying78 Try.infoLt rfl (by decide) w5.heap.size _ q156 h156 hJ.lo (some ⟨am, om, none⟩) (N) (capm) _ q157 (HRM.out.ext hJ.ext.below) clm NLM.out (mC_one ls) (by omega) (by omega) (fun v' w' r1 r2 => hK _ _ (hJ.plain HTY (by rw [hls]; decide) r2 (by rw [hT]; exact r1) hord))
          · rw [if_pos (by rfl)]
            intro K hK
            have q6 := hlat 6 14 _ rfl rfl ⟨⟨3, .phase⟩, by simp, rfl, rfl⟩
            have hord : ∀ x ∈ ([(14, 8), (15, 13)] : List (Nat × Nat)), x.1 = 3 → listed.getD x.2 false = true := (by intro x hx he; simp only [List.mem_cons, List.not_mem_nil, or_false] at hx; rcases hx with rfl | rfl; all_goals first | (exact absurd he (by decide)) | assumption)
            refine wp_mv _ rfl (hK _ _ ?_)
            rw [show a.eval (.tmp 6) = .slice (some ⟨am, om, none⟩) N capm from q6]
            exact hJ.plain HTY (by rw [hls]; decide) (Ex.refl _) (by rw [hT]; rfl) hord
          · rw [if_pos (by rfl)]
            intro K hK
            have q10 := hout 10 (outB_spec (by kernel_rfl))
            have hord : ∀ x ∈ ([(14, 8), (15, 13)] : List (Nat × Nat)), x.1 = 4 → listed.getD x.2 false = true := (by intro x hx he; simp only [List.mem_cons, List.not_mem_nil, or_false] at hx; rcases hx with rfl | rfl; all_goals first | (exact absurd he (by decide)) | assumption)
            refine wp_mv _ rfl (hK _ _ ?_)
            rw [show a.eval (.tmp 10) = .int .i64 p from q10]
            exact hJ.plain HTY (by rw [hls]; decide) (Ex.refl _) (by rw [hT]; rfl) hord
          · rw [if_pos (by rfl)]
            intro K hK
            have dd159 := hdep ⟨3, .data⟩ (by simp) rfl
            have q159 := dd159.2 _ rfl _ rfl
            have h159 := hJ.vals 3 dd159.1 (fun c hc => by have hc : none = some c := hc; cases hc)
            rw [hT] at h159
            rw [show f 3 = .slice (some ⟨am, om, none⟩) N capm from h159] at q159
            clear h159
            clear dd159
            have dd160 := hdep ⟨4, .data⟩ (by simp) rfl
            have q160 := dd160.2 _ rfl _ rfl
            have h160 := hJ.vals 4 dd160.1 (fun c hc => by have hc : none = some c := hc; cases hc)
            rw [hT] at h160
            rw [show f 4 = .int .i64 p from h160] at q160
            clear h160
            clear dd160
            have hord : ∀ x ∈ ([(14, 8), (15, 13)] : List (Nat × Nat)), x.1 = 5 → listed.getD x.2 false = true := (by intro x hx he; simp only [List.mem_cons, List.not_mem_nil, or_false] at hx; rcases hx with rfl | rfl; all_goals first | (exact absurd he (by decide)) | assumption)
            rw [Array.getD_eq_getD_getElem?] at q159
            rw [Array.getD_eq_getD_getElem?] at q160
            clear hsz hdep hout hlat
            go_simp
            exact hK _ _ (hJ.plain HTY (by rw [hls]; decide) (Ex.refl _) (by rw [hT]; first | rfl | exact congrArg (Value.int .i64) (by omega) | exact congrArg (Value.int .i64) (by rw [wrap64_in _ (by omega)]; omega)) hord)
          · rw [if_pos (by rfl)]
            intro K hK
            have dd161 := hdep ⟨5, .data⟩ (by simp) rfl
            have q161 := dd161.2 _ rfl _ rfl
            have h161 := hJ.vals 5 dd161.1 (fun c hc => by have hc : none = some c := hc; cases hc)
            rw [hT] at h161
            rw [show f 5 = .pointer (some ⟨am, om + p * 4, none⟩) from h161] at q161
            clear h161
            clear dd161
            have hord : ∀ x ∈ ([(14, 8), (15, 13)] : List (Nat × Nat)), x.1 = 6 → listed.getD x.2 false = true := (by intro x hx he; simp only [List.mem_cons, List.not_mem_nil, or_false] at hx; rcases hx with rfl | rfl; all_goals first | (exact absurd he (by decide)) | assumption)
            exact ld_lr (.tmp 161) am (om + p * 4) z rfl q161 (fun j u hu => (Below.cell (p := ⟨am, om + p * 4 + j, none⟩) hJ.ext.below HAM.out).trans (HZR.out j u hu)) (hK _ _ (hJ.plain HTY (by rw [hls]; decide) (Ex.refl _) (by rw [hT]; rfl) hord))
          · rw [if_pos (by rfl)]
            intro K hK
            have dd162 := hdep ⟨6, .data⟩ (by simp) rfl
            have q162 := dd162.2 _ rfl _ rfl
            have h162 := hJ.vals 6 dd162.1 (fun c hc => by have hc : none = some c := hc; cases hc)
            rw [hT] at h162
            rw [show f 6 = z.V from h162] at q162
            clear h162
            clear dd162
            have hord : ∀ x ∈ ([(14, 8), (15, 13)] : List (Nat × Nat)), x.1 = 7 → listed.getD x.2 false = true := (by intro x hx he; simp only [List.mem_cons, List.not_mem_nil, or_false] at hx; rcases hx with rfl | rfl; all_goals first | (exact absurd he (by decide)) | assumption)
            exact wp_bsl (.tmp 162) z rfl q162 (hK _ _ (hJ.plain HTY (by rw [hls]; decide) (Ex.alloc _ _) (by rw [hT]; exact ⟨_, rfl, Bk.new rfl _ _⟩) hord))
          · rw [if_pos (by rfl)]
            intro K hK
            have dd158 := hdep ⟨2, .data⟩ (by simp) rfl
            have q158 := dd158.2 _ rfl _ rfl
            have h158 := hJ.vals 2 dd158.1 (fun c hc => by have hc : some 8 = some c := hc; cases hc; exact hun)
            rw [hT] at h158
            have h158 : w2.ownsRow w5.heap.size 70 4 (f 2) (N) (mC ls) := h158
            obtain ⟨v158, e158⟩ : ∃ v, v = f 2 := ⟨_, rfl⟩
            rw [← e158] at h158 q158
            clear e158
            clear dd158
            have dd163 := hdep ⟨7, .data⟩ (by simp) rfl
            have q163 := dd163.2 _ rfl _ rfl
            have h163 := hJ.vals 7 dd163.1 (fun c hc => by have hc : some 8 = some c := hc; cases hc; exact hun)
            rw [hT] at h163
            have h163 : One w2 70 (z.C) (f 7) := h163
            clear dd163
            have hord : ∀ x ∈ ([(14, 8), (15, 13)] : List (Nat × Nat)), x.1 = 8 → listed.getD x.2 false = true := (by intro x hx he; simp only [List.mem_cons, List.not_mem_nil, or_false] at hx; rcases hx with rfl | rfl; all_goals first | (exact absurd he (by decide)) | assumption)
            obtain ⟨adx, ex, nx, rx⟩ := h163.rd
            rw [ex] at q163
            refine wp_rd (.tmp 158) (.tmp 163) 78 70 zeroLt.V 4 48 rfl Try.underlying78 Try.infoLt rfl (by decide) w5.heap.size _ _ _ q158 h158 hJ.lo adx 1 1 _ q163 rx (Nat.le_refl _) (fun h => absurd (nx h) (by decide)) (Lt.C_one z) (by omega) (by omega) (fun v' w' r1 r2 => hK _ _ (hJ.next HTY (by rw [hls]; decide) [70] (by decide) (by decide) r2 (by rw [hT]; exact r1) ?_ hord))
            intro j hj hin hl
            have hm := mem_tys (by decide) hin
            rw [show (List.range (List.length ([70, 0, 70, 0, 0, 0, 0, 70, 70, 4, 0, 4, 4, 4, 70, 4] : List Nat))).filter (fun j => List.getD ([70, 0, 70, 0, 0, 0, 0, 70, 70, 4, 0, 4, 4, 4, 70, 4] : List Nat) j 0 == 70) = [0, 2, 7, 8, 14] from by decide] at hm
            simp only [List.mem_cons, List.not_mem_nil, or_false] at hm
            rcases hm with rfl | rfl | rfl | rfl | rfl
            · exact ⟨2, rfl, Or.inr (hdep ⟨2, .data⟩ (by simp) rfl).1⟩
            · exact ⟨8, rfl, Or.inl rfl⟩
            · exact ⟨8, rfl, Or.inl rfl⟩
            · exact absurd rfl hj
            · exact absurd (hJ.ord (14, 8) (by simp) hl) (by rw [hun]; decide)
          · rw [if_pos (by rfl)]
            intro K hK
            have hord : ∀ x ∈ ([(14, 8), (15, 13)] : List (Nat × Nat)), x.1 = 9 → listed.getD x.2 false = true := (by intro x hx he; simp only [List.mem_cons, List.not_mem_nil, or_false] at hx; rcases hx with rfl | rfl; all_goals first | (exact absurd he (by decide)) | assumption)
            clear hsz hdep hout hlat
            go_simp
            exact hK _ _ (hJ.plain HTY (by rw [hls]; decide) (Ex.alloc _ _) (by rw [hT]; exact ⟨_, rfl, hJ.lo, Bk.new rfl _ _⟩) hord)
          · rw [if_pos (by rfl)]
            intro K hK
            have q7 := hlat 7 15 _ rfl rfl ⟨⟨10, .phase⟩, by simp, rfl, rfl⟩
            have hord : ∀ x ∈ ([(14, 8), (15, 13)] : List (Nat × Nat)), x.1 = 10 → listed.getD x.2 false = true := (by intro x hx he; simp only [List.mem_cons, List.not_mem_nil, or_false] at hx; rcases hx with rfl | rfl; all_goals first | (exact absurd he (by decide)) | assumption)
            refine wp_mv _ rfl (hK _ _ ?_)
            rw [show a.eval (.tmp 7) = .slice (some ⟨ah, oh, none⟩) N caph from q7]
            exact hJ.plain HTY (by rw [hls]; decide) (Ex.refl _) (by rw [hT]; rfl) hord
          · rw [if_pos (by rfl)]
            intro K hK
            have dd165 := hdep ⟨9, .data⟩ (by simp) rfl
            have q165 := dd165.2 _ rfl _ rfl
            have h165 := hJ.vals 9 dd165.1 (fun c hc => by have hc : some 11 = some c := hc; cases hc; exact hun)
            rw [hT] at h165
            have h165 : Emp w5.heap.size w2 4 (f 9) := h165
            clear dd165
            have dd166 := hdep ⟨10, .data⟩ (by simp) rfl
            have q166 := dd166.2 _ rfl _ rfl
            have h166 := hJ.vals 10 dd166.1 (fun c hc => by have hc : none = some c := hc; cases hc)
            rw [hT] at h166
            rw [show f 10 = .slice (some ⟨ah, oh, none⟩) N caph from h166] at q166
            clear h166
            clear dd166
            have hord : ∀ x ∈ ([(14, 8), (15, 13)] : List (Nat × Nat)), x.1 = 11 → listed.getD x.2 false = true := (by intro x hx he; simp only [List.mem_cons, List.not_mem_nil, or_false] at hx; rcases hx with rfl | rfl; all_goals first | (exact absurd he (by decide)) | assumption)
            exact wp_rd0 (.tmp 165) (.tmp 166) 85 4 (.bool false) 1 1 rfl Try.underlying85 Try.infoBool rfl (by decide) w5.heap.size _ q165 h165 hJ.lo (some ⟨ah, oh, none⟩) (N) (caph) _ q166 (HRH.out.ext hJ.ext.below) clh NLH.out (hC_one ls) (by omega) (by omega) (fun v' w' r1 r2 => hK _ _ (hJ.plain HTY (by rw [hls]; decide) r2 (by rw [hT]; exact r1) hord))
          · rw [if_pos (by rfl)]
            intro K hK
            have hord : ∀ x ∈ ([(14, 8), (15, 13)] : List (Nat × Nat)), x.1 = 12 → listed.getD x.2 false = true := (by intro x hx he; simp only [List.mem_cons, List.not_mem_nil, or_false] at hx; rcases hx with rfl | rfl; all_goals first | (exact absurd he (by decide)) | assumption)
            clear hsz hdep hout hlat
            go_simp
            exact hK _ _ (hJ.plain HTY (by rw [hls]; decide) (Ex.alloc _ _) (by rw [hT]; exact ⟨_, rfl, Bk.new rfl _ _⟩) hord)
          · rw [if_pos (by rfl)]
            intro K hK
            have dd167 := hdep ⟨11, .data⟩ (by simp) rfl
            have q167 := dd167.2 _ rfl _ rfl
            have h167 := hJ.vals 11 dd167.1 (fun c hc => by have hc : some 13 = some c := hc; cases hc; exact hun)
            rw [hT] at h167
            have h167 : w2.ownsRow w5.heap.size 4 1 (f 11) (N) (hC ls) := h167
            obtain ⟨v167, e167⟩ : ∃ v, v = f 11 := ⟨_, rfl⟩
            rw [← e167] at h167 q167
            clear e167
            clear dd167
            have dd168 := hdep ⟨12, .data⟩ (by simp) rfl
            have q168 := dd168.2 _ rfl _ rfl
            have h168 := hJ.vals 12 dd168.1 (fun c hc => by have hc : some 13 = some c := hc; cases hc; exact hun)
            rw [hT] at h168
            have h168 : One w2 4 ([.bool false]) (f 12) := h168
            clear dd168
            have hord : ∀ x ∈ ([(14, 8), (15, 13)] : List (Nat × Nat)), x.1 = 13 → listed.getD x.2 false = true := (by intro x hx he; simp only [List.mem_cons, List.not_mem_nil, or_false] at hx; rcases hx with rfl | rfl; all_goals first | (exact absurd he (by decide)) | assumption)
            obtain ⟨adx, ex, nx, rx⟩ := h168.rd
            rw [ex] at q168
            refine wp_rd (.tmp 167) (.tmp 168) 85 4 (.bool false) 1 1 rfl Try.underlying85 Try.infoBool rfl (by decide) w5.heap.size _ _ _ q167 h167 hJ.lo adx 1 1 _ q168 rx (Nat.le_refl _) (fun h => absurd (nx h) (by decide)) (fun u hu => by rw [List.mem_singleton.1 hu]; rfl) (by omega) (by omega) (fun v' w' r1 r2 => hK _ _ (hJ.next HTY (by rw [hls]; decide) [4] (by decide) (by decide) r2 (by rw [hT]; exact r1) ?_ hord))
            intro j hj hin hl
            have hm := mem_tys (by decide) hin
            rw [show (List.range (List.length ([70, 0, 70, 0, 0, 0, 0, 70, 70, 4, 0, 4, 4, 4, 70, 4] : List Nat))).filter (fun j => List.getD ([70, 0, 70, 0, 0, 0, 0, 70, 70, 4, 0, 4, 4, 4, 70, 4] : List Nat) j 0 == 4) = [9, 11, 12, 13, 15] from by decide] at hm
            simp only [List.mem_cons, List.not_mem_nil, or_false] at hm
            rcases hm with rfl | rfl | rfl | rfl | rfl
            · exact ⟨11, rfl, Or.inr (hdep ⟨11, .data⟩ (by simp) rfl).1⟩
            · exact ⟨13, rfl, Or.inl rfl⟩
            · exact ⟨13, rfl, Or.inl rfl⟩
            · exact absurd rfl hj
            · exact absurd (hJ.ord (15, 13) (by simp) hl) (by rw [hun]; decide)
          · rw [if_pos (by rfl)]
            intro K hK
            have dd164 := hdep ⟨8, .data⟩ (by simp) rfl
            have q164 := dd164.2 _ rfl _ rfl
            have h164 := hJ.vals 8 dd164.1 (fun c hc => by have hc : none = some c := hc; cases hc)
            rw [hT] at h164
            have h164 : w2.ownsRow w5.heap.size 70 4 (f 8) (N + 1) (mC ls ++ z.C) := h164
            obtain ⟨v164, e164⟩ : ∃ v, v = f 8 := ⟨_, rfl⟩
            rw [← e164] at h164 q164
            clear e164
            clear dd164
            have hl8 := (hdep ⟨8, .data⟩ (by simp) rfl).1
            have hord : ∀ x ∈ ([(14, 8), (15, 13)] : List (Nat × Nat)), x.1 = 14 → listed.getD x.2 false = true := (by intro x hx he; simp only [List.mem_cons, List.not_mem_nil, or_false] at hx; rcases hx with rfl | rfl; all_goals first | (exact absurd he (by decide)) | assumption)
            rw [Array.getD_eq_getD_getElem?] at q164
            clear hsz hdep hout hlat
            go_simp
            exact hK _ _ (hJ.plain HTY (by rw [hls]; decide) (Ex.refl _) (by rw [hT]; exact h164) hord)
          · rw [if_pos (by rfl)]
            intro K hK
            have dd169 := hdep ⟨13, .data⟩ (by simp) rfl
            have q169 := dd169.2 _ rfl _ rfl
            have h169 := hJ.vals 13 dd169.1 (fun c hc => by have hc : none = some c := hc; cases hc)
            rw [hT] at h169
            have h169 : w2.ownsRow w5.heap.size 4 1 (f 13) (N + 1) (hC ls ++ [.bool false]) := h169
            obtain ⟨v169, e169⟩ : ∃ v, v = f 13 := ⟨_, rfl⟩
            rw [← e169] at h169 q169
            clear e169
            clear dd169
            have hl13 := (hdep ⟨13, .data⟩ (by simp) rfl).1
            have hord : ∀ x ∈ ([(14, 8), (15, 13)] : List (Nat × Nat)), x.1 = 15 → listed.getD x.2 false = true := (by intro x hx he; simp only [List.mem_cons, List.not_mem_nil, or_false] at hx; rcases hx with rfl | rfl; all_goals first | (exact absurd he (by decide)) | assumption)
            rw [Array.getD_eq_getD_getElem?] at q169
            clear hsz hdep hout hlat
            go_simp
            exact hK _ _ (hJ.plain HTY (by rw [hls]; decide) (Ex.refl _) (by rw [hT]; exact h169) hord)
        · intro listed f w2 hall hJ
          have o14 := hJ.vals 14 (hall 14 (by simp)) (fun c hc => by have hc : none = some c := hc; cases hc)
          rw [hT] at o14
          have o14 : w2.ownsRow w5.heap.size 70 4 (f 14) (N + 1) (mC ls ++ z.C) := o14
          have o15 := hJ.vals 15 (hall 15 (by simp)) (fun c hc => by have hc : none = some c := hc; cases hc)
          rw [hT] at o15
          have o15 : w2.ownsRow w5.heap.size 4 1 (f 15) (N + 1) (hC ls ++ [.bool false]) := o15
          have xw : Ex w5 w2 := hJ.ext.below
          simp only [putAll, Act.put, List.setIfInBounds_toArray, List.set_cons_zero, List.set_cons_succ, Nat.zero_add, Nat.reduceAdd]
          generalize f 14 = nm at o14 ⊢
          generalize f 15 = nh at o15 ⊢
          clear hJ hall hT HTY
          generalize f 0 = y0
          generalize f 1 = y1
          generalize f 2 = y2
          generalize f 3 = y3
          generalize f 4 = y4
          generalize f 5 = y5
          generalize f 6 = y6
          generalize f 7 = y7
          generalize f 8 = y8
          generalize f 9 = y9
          generalize f 10 = y10
          generalize f 11 = y11
          generalize f 12 = y12
          generalize f 13 = y13
          have hel : (ls ++ [(false, z)]).length = N + 1 := by rw [List.length_append, ← HN.out]; rfl
          replace P := Lib.hid (P.out.rows xw w5.heap.size P.out.ext.sz o14 o15 hel hel (mC_app ls (false, z)) (hC_app ls (false, z)) (fun x hx => by
                      rcases List.mem_append.1 hx with hx | hx
                      · exact Or.inl hx
                      · rw [List.mem_singleton.1 hx]; exact Or.inr HZB.out))
          rw [show ctO ls ++ [(false, z.ct)] = ctO (ls ++ [(false, z)]) from by unfold ctO; rw [List.map_append]; rfl] at P
          clear o14 o15 xw hel
          go_wp2_with (first | (with_reducible refine stop_load (t := 70) ?_) | (with_reducible refine stop_store (t := 70) ?_) | (with_reducible refine stop_load (t := 72) ?_) | (with_reducible refine stop_store (t := 72) ?_) | (with_reducible refine stop_build (t := 70) ?_))
          refine (same_st P.out).mono ?_
          rintro e wz ⟨rfl, xx⟩
          replace P := Lib.hid (P.out.ex xx)
          clear xx
          go_wp2_with (first | (with_reducible refine stop_load (t := 70) ?_) | (with_reducible refine stop_store (t := 70) ?_) | (with_reducible refine stop_load (t := 72) ?_) | (with_reducible refine stop_store (t := 72) ?_) | (with_reducible refine stop_build (t := 70) ?_))
          refine ⟨⟨_, _, k + 1, ls ++ [(false, z)], ⟨by omega, P⟩, rfl, rfl, rfl, rfl, rfl, rfl, rfl, rfl, rfl⟩, by simp [p21M, intOf]; omega⟩
      · have h64i : ¬ (N : Int) < 64 := by omega
        rw [ctO_len, ← HN.out, decide_eq_false h64, if_neg (by simp)] at HDB
        refine (HDB.out).mono ?_
        rintro e w5 ⟨rfl, hof, hft⟩
        replace P := Lib.hid (P.out.ft hft hof)
        clear hof hft
        go_wp2_with (first | (with_reducible refine stop_load (t := 70) ?_) | (with_reducible refine stop_store (t := 70) ?_) | (with_reducible refine stop_load (t := 72) ?_) | (with_reducible refine stop_store (t := 72) ?_) | (with_reducible refine stop_build (t := 70) ?_))
        refine (same_st P.out).mono ?_
        rintro e wz ⟨rfl, xx⟩
        replace P := Lib.hid (P.out.ex xx)
        clear xx
        go_wp2_with (first | (with_reducible refine stop_load (t := 70) ?_) | (with_reducible refine stop_store (t := 70) ?_) | (with_reducible refine stop_load (t := 72) ?_) | (with_reducible refine stop_store (t := 72) ?_) | (with_reducible refine stop_build (t := 70) ?_))
        refine ⟨⟨_, _, k + 1, ls, ⟨by omega, P⟩, rfl, rfl, rfl, rfl, rfl, rfl, rfl, rfl, rfl⟩, by simp [p21M, intOf]; omega⟩
end Go.Proofs.Ytedljddjmojeeaa
