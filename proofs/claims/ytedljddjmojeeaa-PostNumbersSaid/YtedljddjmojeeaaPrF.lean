/- play of chapter 21 walked -/
import Derived.Test.YtedljddjmojeeaaPr
namespace Go.Proofs.Ytedljddjmojeeaa
open Go.RowKit
set_option maxHeartbeats 4000000 in
set_option maxRecDepth 100000 in
theorem p21_put (w : World) (ad : Option Addr) (cap n : Nat) (most : Int) (l : List Ak) (O : Nat) (mv : Value) (hv : Value) (k : Nat) (ls : List (Bool × Lt)) (y : Nat → Value) (wr : World) (hk : k ≤ n) (P : Hid (Pst w wr O (ctO ls) ls mv hv)) (hL : n ≤ 9223372036854775807) (hin : Ap.In ad cap l w) (hnl : n = l.length) (hmo : (k : Int) < most) (A0 : Ak) (hA0 : l[k]? = some A0) (hlt : k < n) (hkind : A0.kind ≠ 4 ∧ A0.kind ≠ 5 ∧ A0.kind ≠ 6 ∧ A0.kind ≠ 7 ∧ A0.kind ≠ 8) (Q0 : Exit → Act → World → Prop) (hexit : ∀ a' w'', p21I w ad cap n most l O a' w'' → Q0 (.exit 0) a' w'') :
    Code.wp Try.prog p21Body (Exit.then (fun a' w'' => p21I w ad cap n most l O a' w'' ∧ p21M n a' w'' < p21M n ⟨#[.slice ad n cap, .int .i64 most, y 2, y 3, .bool false, .pointer (some ⟨O, 0, none⟩), mv, hv, .int .i64 k, y 9, y 10, y 11, y 12, y 13, y 14, y 15, y 16, y 17, y 18, y 19, y 20, y 21, y 22, y 23, y 24, y 25, y 26, y 27, y 28, y 29, y 30, y 31, y 32, y 33, y 34, y 35, y 36, y 37, y 38, y 39, y 40, y 41, y 42, y 43, y 44, y 45, y 46, y 47, y 48, y 49, y 50, y 51, y 52, y 53, y 54, y 55, y 56, y 57, y 58, y 59, y 60, y 61, y 62, y 63, y 64, y 65, y 66, y 67, y 68, y 69, y 70, y 71, y 72, y 73, y 74, y 75, y 76, y 77, y 78, y 79, y 80, y 81, y 82, y 83, y 84, y 85, y 86, y 87, y 88, y 89, y 90, y 91, y 92, y 93, y 94, y 95, y 96, y 97, y 98, y 99, y 100, y 101, y 102, y 103, y 104, y 105, y 106, y 107, y 108, y 109, y 110, y 111, y 112, y 113, y 114, y 115, y 116, y 117, y 118, y 119, y 120, y 121, y 122, y 123, y 124, y 125, y 126, y 127, y 128, y 129, y 130, y 131, y 132, y 133, y 134, y 135, y 136, y 137, y 138, y 139, y 140, y 141, y 142, y 143, y 144, y 145, y 146, y 147, y 148, y 149, y 150, y 151, y 152, y 153, y 154, y 155, y 156, y 157, y 158, y 159, y 160, y 161, y 162, y 163, y 164, y 165, y 166, y 167, y 168, y 169, y 170, y 171, y 172, y 173, y 174, y 175, y 176, y 177, y 178, y 179, y 180, y 181, y 182, y 183, y 184, y 185, y 186, y 187, y 188, y 189, y 190, y 191, y 192, y 193, y 194, y 195, y 196, y 197, y 198, y 199, y 200, y 201, y 202, y 203, y 204, y 205, y 206, y 207, y 208, y 209, y 210, y 211, y 212, y 213], []⟩ wr) Q0) ⟨#[.slice ad n cap, .int .i64 most, y 2, y 3, .bool false, .pointer (some ⟨O, 0, none⟩), mv, hv, .int .i64 k, y 9, y 10, y 11, y 12, y 13, y 14, y 15, y 16, y 17, y 18, y 19, y 20, y 21, y 22, y 23, y 24, y 25, y 26, y 27, y 28, y 29, y 30, y 31, y 32, y 33, y 34, y 35, y 36, y 37, y 38, y 39, y 40, y 41, y 42, y 43, y 44, y 45, y 46, y 47, y 48, y 49, y 50, y 51, y 52, y 53, y 54, y 55, y 56, y 57, y 58, y 59, y 60, y 61, y 62, y 63, y 64, y 65, y 66, y 67, y 68, y 69, y 70, y 71, y 72, y 73, y 74, y 75, y 76, y 77, y 78, y 79, y 80, y 81, y 82, y 83, y 84, y 85, y 86, y 87, y 88, y 89, y 90, y 91, y 92, y 93, y 94, y 95, y 96, y 97, y 98, y 99, y 100, y 101, y 102, y 103, y 104, y 105, y 106, y 107, y 108, y 109, y 110, y 111, y 112, y 113, y 114, y 115, y 116, y 117, y 118, y 119, y 120, y 121, y 122, y 123, y 124, y 125, y 126, y 127, y 128, y 129, y 130, y 131, y 132, y 133, y 134, y 135, y 136, y 137, y 138, y 139, y 140, y 141, y 142, y 143, y 144, y 145, y 146, y 147, y 148, y 149, y 150, y 151, y 152, y 153, y 154, y 155, y 156, y 157, y 158, y 159, y 160, y 161, y 162, y 163, y 164, y 165, y 166, y 167, y 168, y 169, y 170, y 171, y 172, y 173, y 174, y 175, y 176, y 177, y 178, y 179, y 180, y 181, y 182, y 183, y 184, y 185, y 186, y 187, y 188, y 189, y 190, y 191, y 192, y 193, y 194, y 195, y 196, y 197, y 198, y 199, y 200, y 201, y 202, y 203, y 204, y 205, y 206, y 207, y 208, y 209, y 210, y 211, y 212, y 213], []⟩ wr := by
  conv => arg 2; whnf
  have HIN := Lib.hid hin
  have HNL := Lib.hid hnl
  clear hin hnl
  have hkd := hkind
  obtain ⟨A, hA⟩ : ∃ A, l[k]? = some A := ⟨_, List.getElem?_eq_getElem (by rw [← HNL.out]; exact hlt)⟩
  obtain ⟨aa, oa, rfl, haa, hra⟩ := HIN.out.read (by rw [← HNL.out]; omega)
  have HAR := Lib.hid (hra k A hA)
  have HAI := Lib.hid (HIN.out.ins k A hA)
  have HAA := Lib.hid haa
  clear hra haa
  obtain rfl : A = A0 := by rw [hA0] at hA; exact (Option.some.inj hA).symm
  clear hA hA0
  obtain ⟨adm, capm, rfl, _⟩ := P.out.lp
  have hn64 := P.out.off.len
  rw [ctO_len] at hn64
  obtain ⟨adh, caph, rfl, hbin⟩ := P.out.bp (by omega)
  have HBIN := Lib.hid hbin
  clear hbin
  obtain ⟨N, hN⟩ : ∃ N, N = ls.length := ⟨_, rfl⟩
  rw [← hN] at P hn64 HBIN ⊢
  have HN := Lib.hid hN
  clear hN
  have q0 : (0 : Int) ≤ (k : Int) := by omega
  have q1 : (k : Int) < (n : Int) := by omega
  go_wp2_with (first | (with_reducible refine stop_load (t := 70) ?_) | (with_reducible refine stop_store (t := 70) ?_) | (with_reducible refine stop_load (t := 72) ?_) | (with_reducible refine stop_store (t := 72) ?_) | (with_reducible refine stop_build (t := 70) ?_))
  (with_reducible refine ⟨?_⟩); (with_reducible refine at_any ?_ ?_); (focus go_simp); refine fun K0 hK => ld_ar _ aa (oa + k * 6) A rfl rfl (fun j u hu => (Below.cell (p := ⟨aa, oa + k * 6 + j, none⟩) P.out.ext HAA.out).trans (HAR.out j u hu)) (hK _ _ ?_)
  clear hK
  go_wp2_with (first | (with_reducible refine stop_load (t := 70) ?_) | (with_reducible refine stop_store (t := 70) ?_) | (with_reducible refine stop_load (t := 72) ?_) | (with_reducible refine stop_store (t := 72) ?_) | (with_reducible refine stop_build (t := 70) ?_))
  (with_reducible refine ⟨?_⟩); (with_reducible refine at_any ?_ ?_); (focus go_simp); refine fun K0 hK => st_ak _ _ wr.heap.size A rfl rfl rfl (Bk.new rfl _ _) (by rfl) (fun w2 hd9 ho => hK _ _ ?_)
  clear hK
  have xx : Ex wr w2 := ho.below wr.heap.size (Nat.le_refl _) wr (Ex.alloc wr _)
  have PX := P
  replace P := Lib.hid (P.out.ex xx)
  obtain ⟨g, hg⟩ : ∃ g, g = wr.heap.size := ⟨_, rfl⟩
  rw [← hg] at hd9 ⊢
  have HGA := Lib.hid hd9
  have XW := Lib.hid xx
  have c0 : w2.cell? ⟨g, 0, none⟩ = some (.int .i64 A.kind) := hd9.cell 0
  have c1 : w2.cell? ⟨g, 1, none⟩ = some (.int .i64 A.i) := hd9.cell 1
  clear xx ho hd9 hg PX
  go_wp2_with (first | (with_reducible refine stop_load (t := 70) ?_) | (with_reducible refine stop_store (t := 70) ?_) | (with_reducible refine stop_load (t := 72) ?_) | (with_reducible refine stop_store (t := 72) ?_) | (with_reducible refine stop_build (t := 70) ?_))
  refine (within_any A.i (-1) (N : Int) HAI.out.i (by omega) (by omega) (by omega) w2).mono ?_
  rintro e w3 ⟨j, rfl, hj0, hj1, rfl⟩
  have hj3 : j = -1 ∨ j = (N : Int) ∨ ∃ p : Nat, j = (p : Int) ∧ p < N := by
    rcases Int.lt_or_le j 0 with h | h
    · exact Or.inl (by omega)
    · obtain ⟨p, rfl⟩ := Int.eq_ofNat_of_zero_le h
      rcases Nat.lt_or_ge p N with h2 | h2
      · exact Or.inr (Or.inr ⟨p, rfl, h2⟩)
      · exact Or.inr (Or.inl (by omega))
  clear hj0 hj1
  skip
  skip
  rcases hj3 with rfl | rfl | ⟨p, rfl, hp⟩
  · have r0 : ¬ (0 : Int) ≤ (-1 : Int) := by decide
    have hk4 := hkd.1
    have hk5 := hkd.2.1
    have hk7 := hkd.2.2.1
    have hk8 := hkd.2.2.2.1
    have hk9 := hkd.2.2.2.2
    clear hkd
    go_wp2_with (first | (with_reducible refine stop_load (t := 70) ?_) | (with_reducible refine stop_store (t := 70) ?_) | (with_reducible refine stop_load (t := 72) ?_) | (with_reducible refine stop_store (t := 72) ?_) | (with_reducible refine stop_build (t := 70) ?_))
    (with_reducible refine ⟨?_⟩); (with_reducible refine at_any ?_ ?_); (focus go_simp); refine fun K0 hK => wp_load_mid 70 _ rfl g 2 rfl A.x.C _ (HGA.out.part 2 A.x.C rfl) Try.underlying70 rfl (by rw [Try.sizeLt]; rfl) (hK _ _ ?_)
    clear hK
    go_wp2_with (first | (with_reducible refine stop_load (t := 70) ?_) | (with_reducible refine stop_store (t := 70) ?_) | (with_reducible refine stop_load (t := 72) ?_) | (with_reducible refine stop_store (t := 72) ?_) | (with_reducible refine stop_build (t := 70) ?_))
    skip
    have P2 := P
    (with_reducible refine ⟨?_⟩); (with_reducible refine at_any ?_ ?_); (focus go_simp); refine fun K0 hK => st_lx _ _ w2.heap.size 70 Try.sizeLt A.x rfl rfl rfl HAI.out.x.ok (Bk.new rfl _ _) (by rfl) (fun w4 hd9 ho => hK _ _ ?_)
    clear hK
    have xx : Ex w2 w4 := ho.below w2.heap.size (Nat.le_refl _) w2 (Ex.alloc w2 _)
    replace P := Lib.hid (P.out.ex xx)
    have XQ := Lib.hid xx
    have YI := Lib.hid (HAI.out.x.b.ext P.out.ext)
    obtain ⟨g2, hg⟩ : ∃ g, g = w2.heap.size := ⟨_, rfl⟩
    have HGE := Lib.hid (Nat.le_of_eq hg.symm)
    rw [← hg] at hd9 ⊢
    have HG2 := Lib.hid hd9
    have d3 := (LB.cells hd9).2.2.2
    clear xx ho hd9 hg c0 c1
    go_wp2_with (first | (with_reducible refine stop_load (t := 70) ?_) | (with_reducible refine stop_store (t := 70) ?_) | (with_reducible refine stop_load (t := 72) ?_) | (with_reducible refine stop_store (t := 72) ?_) | (with_reducible refine stop_build (t := 70) ?_))
    refine (cut_any A.x.bs 30 (by omega) (by omega) HAI.out.x.n w4 YI.out).mono ?_
    rintro e w5 ⟨rfl, rfl⟩
    go_wp2_with (first | (with_reducible refine stop_store (t := 28) ?_) |  (with_reducible refine stop_load (t := 70) ?_) | (with_reducible refine stop_store (t := 70) ?_) | (with_reducible refine stop_load (t := 72) ?_) | (with_reducible refine stop_store (t := 72) ?_) | (with_reducible refine stop_build (t := 70) ?_))
    (with_reducible refine ⟨?_⟩); (with_reducible refine at_any ?_ ?_); (focus go_simp); refine fun K0 hK => st_lbs (by kernel_rfl) _ _ g2 A.x (Pt.mk A.x.bs.ad A.x.bs.cap (A.x.bs.l.take 30)) rfl rfl rfl HG2.out (fun w5 hd ho => hK _ _ ?_)
    clear hK
    have hbt : (A.x.bs.l.take 30).length ≤ 30 := by rw [List.length_take]; omega
    obtain ⟨z, hz⟩ : ∃ z : Lt, z = { A.x with bs := Pt.mk A.x.bs.ad A.x.bs.cap (A.x.bs.l.take 30) } := ⟨_, rfl⟩
    rw [← hz] at hd
    have HZB : Hid (z.Ok ∧ z.bs.In w w.heap.size ∧ z.bs.l.length ≤ 30) := Lib.hid (by rw [hz]; exact ⟨⟨HAI.out.x.k.1, HAI.out.x.k.2, HAI.out.x.f.1, HAI.out.x.f.2, HAI.out.x.t.1, HAI.out.x.t.2⟩, HAI.out.x.b.take 30, hbt⟩)
    skip
    have hPO := P2.out.ex (ho.below w2.heap.size HGE.out w2 XQ.out)
    replace P := Lib.hid hPO
    replace HG2 := Lib.hid hd
    clear hd ho hz hbt hPO d3 YI
    go_wp2_with (first | (with_reducible refine stop_load (t := 70) ?_) | (with_reducible refine stop_store (t := 70) ?_) | (with_reducible refine stop_load (t := 72) ?_) | (with_reducible refine stop_store (t := 72) ?_) | (with_reducible refine stop_build (t := 70) ?_))
    (with_reducible refine ⟨?_⟩); (with_reducible refine at_any ?_ ?_); (focus go_simp); refine fun K0 hK => ld_lx _ g2 70 z rfl rfl HG2.out (hK _ _ ?_)
    clear hK
    have HPA := Lib.hid (put_any O (ctO ls) z w5 P.out.off HZB.out.1 (HZB.out.2.1.ext P.out.ext) (Nat.le_trans HZB.out.2.2 (by decide)))
    have hcp : canPut (ctO ls).length z.bs.l.length = decide (N < 64) := by unfold canPut; rw [ctO_len, ← HN.out, decide_eq_true (Nat.le_trans HZB.out.2.2 (show 30 ≤ 8192 by decide)), Bool.and_true]
    rw [hcp] at HPA
    clear hcp
    by_cases h64 : N < 64
    · have h64i : (N : Int) < 64 := by omega
      rw [decide_eq_true h64, if_pos rfl] at HPA
      go_wp2_with (first | (with_reducible refine stop_load (t := 70) ?_) | (with_reducible refine stop_store (t := 70) ?_) | (with_reducible refine stop_load (t := 72) ?_) | (with_reducible refine stop_store (t := 72) ?_) | (with_reducible refine stop_build (t := 70) ?_))
      refine HPA.out.mono ?_
      rintro e w6 ⟨rfl, hof, hft⟩
      replace HG2 := Lib.hid (And.intro HG2.out.1 (HG2.out.2.ft hft))
      replace P := Lib.hid (P.out.ft hft hof)
      clear hof hft HPA XW HBIN HGA
      go_wp2_with (first | (with_reducible refine stop_load (t := 70) ?_) | (with_reducible refine stop_store (t := 70) ?_) | (with_reducible refine stop_load (t := 72) ?_) | (with_reducible refine stop_store (t := 72) ?_) | (with_reducible refine stop_build (t := 70) ?_))
      obtain ⟨-, nlm, clm, xlm, RM⟩ := own_form P.out.mrow
      obtain ⟨-, nlh, clh, xlh, RH⟩ := own_form P.out.hrow
      rw [← HN.out] at clm RM clh RH
      have HRM := Lib.hid RM
      have HRH := Lib.hid RH
      have NLM := Lib.hid nlm
      have NLH := Lib.hid nlh
      clear RM RH nlm nlh
      go_wp2_with fail
      obtain ⟨T, hT⟩ : ∃ T : List (Rv w6.heap.size), T = [.emp 70, .is (.slice adm N capm), .own 70 4 (N) (mC ls), .is (z.V), .one 70 (z.C), .own 70 4 (N + 1) (mC ls ++ z.C), .emp 4, .is (.slice adh N caph), .own 4 1 (N) (hC ls), .one 4 ([.bool false]), .own 4 1 (N + 1) (hC ls ++ [.bool false]), .own 70 4 (N + 1) (mC ls ++ z.C), .own 4 1 (N + 1) (hC ls ++ [.bool false])] := ⟨_, rfl⟩
      have HTY : T.map Rv.ty = ([70, 0, 70, 0, 70, 70, 4, 0, 4, 4, 4, 70, 4] : List Nat) := by rw [hT]; rfl
      refine wp_region_gen (JR w6.heap.size w6 [70, 4] T ([70, 0, 70, 0, 70, 70, 4, 0, 4, 4, 4, 70, 4] : List Nat) ([some 2, none, some 5, none, some 5, none, some 8, none, some 10, some 10, none, none, none] : List (Option Nat)) ([(11, 5), (12, 10)] : List (Nat × Nat))) (by kernel_rfl) (by kernel_rfl) (by kernel_rfl) (fitB_spec (by kernel_rfl)) (fun listed f h => JR.start (Nat.le_refl _) listed f h) ?_ ?_
      · intro i o ho
        have hi : i < 13 := (Array.getElem?_eq_some_iff.1 ho).1
        have hi' : i = 0 ∨ i = 1 ∨ i = 2 ∨ i = 3 ∨ i = 4 ∨ i = 5 ∨ i = 6 ∨ i = 7 ∨ i = 8 ∨ i = 9 ∨ i = 10 ∨ i = 11 ∨ i = 12 := by omega
        clear hi
        rcases hi' with rfl | rfl | rfl | rfl | rfl | rfl | rfl | rfl | rfl | rfl | rfl | rfl | rfl
        all_goals (simp only [List.getElem?_toArray, List.getElem?_cons_zero, List.getElem?_cons_succ, Option.some.injEq] at ho; subst ho; intro listed f a w2 hJ hsz hls hun hdep hout hlat)
        · rw [if_pos (by rfl)]
          intro K hK
          have hord : ∀ x ∈ ([(11, 5), (12, 10)] : List (Nat × Nat)), x.1 = 0 → listed.getD x.2 false = true := (by intro x hx he; simp only [List.mem_cons, List.not_mem_nil, or_false] at hx; rcases hx with rfl | rfl; all_goals first | (exact absurd he (by decide)) | assumption)
          clear hsz hdep hout hlat
          go_simp
          exact hK _ _ (hJ.plain HTY (by rw [hls]; decide) (Ex.alloc _ _) (by rw [hT]; exact ⟨_, rfl, hJ.lo, Bk.new rfl _ _⟩) hord)
        · rw [if_pos (by rfl)]
          intro K hK
          have q6 := hlat 6 11 _ rfl rfl ⟨⟨1, .phase⟩, by simp, rfl, rfl⟩
          have hord : ∀ x ∈ ([(11, 5), (12, 10)] : List (Nat × Nat)), x.1 = 1 → listed.getD x.2 false = true := (by intro x hx he; simp only [List.mem_cons, List.not_mem_nil, or_false] at hx; rcases hx with rfl | rfl; all_goals first | (exact absurd he (by decide)) | assumption)
          refine wp_mv _ rfl (hK _ _ ?_)
          rw [show a.eval (.tmp 6) = .slice adm N capm from q6]
          exact hJ.plain HTY (by rw [hls]; decide) (Ex.refl _) (by rw [hT]; rfl) hord
        · rw [if_pos (by rfl)]
          intro K hK
          have dd68 := hdep ⟨0, .data⟩ (by simp) rfl
          have q68 := dd68.2 _ rfl _ rfl
          have h68 := hJ.vals 0 dd68.1 (fun c hc => by have hc : some 2 = some c := hc; cases hc; exact hun)
          rw [hT] at h68
          have h68 : Emp w6.heap.size w2 70 (f 0) := h68
          clear dd68
          have dd69 := hdep ⟨1, .data⟩ (by simp) rfl
          have q69 := dd69.2 _ rfl _ rfl
          have h69 := hJ.vals 1 dd69.1 (fun c hc => by have hc : none = some c := hc; cases hc)
          rw [hT] at h69
          rw [show f 1 = .slice adm N capm from h69] at q69
          clear h69
          clear dd69
          have hord : ∀ x ∈ ([(11, 5), (12, 10)] : List (Nat × Nat)), x.1 = 2 → listed.getD x.2 false = true := (by intro x hx he; simp only [List.mem_cons, List.not_mem_nil, or_false] at hx; rcases hx with rfl | rfl; all_goals first | (exact absurd he (by decide)) | assumption)
          exact wp_rd0 (.tmp 68) (.tmp 69) 78 70 zeroLt.V 4 48 rfl Try.underlying78 Try.infoLt rfl (by decide) w6.heap.size _ q68 h68 hJ.lo adm (N) (capm) _ q69 (HRM.out.ext hJ.ext.below) clm NLM.out (mC_one ls) (by omega) (by omega) (fun v' w' r1 r2 => hK _ _ (hJ.plain HTY (by rw [hls]; decide) r2 (by rw [hT]; exact r1) hord))
        · rw [if_pos (by rfl)]
          intro K hK
          have q18 := hout 18 (outB_spec (by kernel_rfl))
          have hord : ∀ x ∈ ([(11, 5), (12, 10)] : List (Nat × Nat)), x.1 = 3 → listed.getD x.2 false = true := (by intro x hx he; simp only [List.mem_cons, List.not_mem_nil, or_false] at hx; rcases hx with rfl | rfl; all_goals first | (exact absurd he (by decide)) | assumption)
          exact ld_lx (.tmp 18) g2 70 z rfl q18 (LX.ext HG2.out hJ.ext.below) (hK _ _ (hJ.plain HTY (by rw [hls]; decide) (Ex.refl _) (by rw [hT]; rfl) hord))
        · rw [if_pos (by rfl)]
          intro K hK
          have dd71 := hdep ⟨3, .data⟩ (by simp) rfl
          have q71 := dd71.2 _ rfl _ rfl
          have h71 := hJ.vals 3 dd71.1 (fun c hc => by have hc : none = some c := hc; cases hc)
          rw [hT] at h71
          rw [show f 3 = z.V from h71] at q71
          clear h71
          clear dd71
          have hord : ∀ x ∈ ([(11, 5), (12, 10)] : List (Nat × Nat)), x.1 = 4 → listed.getD x.2 false = true := (by intro x hx he; simp only [List.mem_cons, List.not_mem_nil, or_false] at hx; rcases hx with rfl | rfl; all_goals first | (exact absurd he (by decide)) | assumption)
          exact wp_bsl (.tmp 71) z rfl q71 (hK _ _ (hJ.plain HTY (by rw [hls]; decide) (Ex.alloc _ _) (by rw [hT]; exact ⟨_, rfl, Bk.new rfl _ _⟩) hord))
        · rw [if_pos (by rfl)]
          intro K hK
          have dd70 := hdep ⟨2, .data⟩ (by simp) rfl
          have q70 := dd70.2 _ rfl _ rfl
          have h70 := hJ.vals 2 dd70.1 (fun c hc => by have hc : some 5 = some c := hc; cases hc; exact hun)
          rw [hT] at h70
          have h70 : w2.ownsRow w6.heap.size 70 4 (f 2) (N) (mC ls) := h70
          obtain ⟨v70, e70⟩ : ∃ v, v = f 2 := ⟨_, rfl⟩
          rw [← e70] at h70 q70
          clear e70
          clear dd70
          have dd72 := hdep ⟨4, .data⟩ (by simp) rfl
          have q72 := dd72.2 _ rfl _ rfl
          have h72 := hJ.vals 4 dd72.1 (fun c hc => by have hc : some 5 = some c := hc; cases hc; exact hun)
          rw [hT] at h72
          have h72 : One w2 70 (z.C) (f 4) := h72
          clear dd72
          have hord : ∀ x ∈ ([(11, 5), (12, 10)] : List (Nat × Nat)), x.1 = 5 → listed.getD x.2 false = true := (by intro x hx he; simp only [List.mem_cons, List.not_mem_nil, or_false] at hx; rcases hx with rfl | rfl; all_goals first | (exact absurd he (by decide)) | assumption)
          obtain ⟨adx, ex, nx, rx⟩ := h72.rd
          rw [ex] at q72
          refine wp_rd (.tmp 70) (.tmp 72) 78 70 zeroLt.V 4 48 rfl Try.underlying78 Try.infoLt rfl (by decide) w6.heap.size _ _ _ q70 h70 hJ.lo adx 1 1 _ q72 rx (Nat.le_refl _) (fun h => absurd (nx h) (by decide)) (Lt.C_one z) (by omega) (by omega) (fun v' w' r1 r2 => hK _ _ (hJ.next HTY (by rw [hls]; decide) [70] (by decide) (by decide) r2 (by rw [hT]; exact r1) ?_ hord))
          intro j hj hin hl
          have hm := mem_tys (by decide) hin
          rw [show (List.range (List.length ([70, 0, 70, 0, 70, 70, 4, 0, 4, 4, 4, 70, 4] : List Nat))).filter (fun j => List.getD ([70, 0, 70, 0, 70, 70, 4, 0, 4, 4, 4, 70, 4] : List Nat) j 0 == 70) = [0, 2, 4, 5, 11] from by decide] at hm
          simp only [List.mem_cons, List.not_mem_nil, or_false] at hm
          rcases hm with rfl | rfl | rfl | rfl | rfl
          · exact ⟨2, rfl, Or.inr (hdep ⟨2, .data⟩ (by simp) rfl).1⟩
          · exact ⟨5, rfl, Or.inl rfl⟩
          · exact ⟨5, rfl, Or.inl rfl⟩
          · exact absurd rfl hj
          · exact absurd (hJ.ord (11, 5) (by simp) hl) (by rw [hun]; decide)
        · rw [if_pos (by rfl)]
          intro K hK
          have hord : ∀ x ∈ ([(11, 5), (12, 10)] : List (Nat × Nat)), x.1 = 6 → listed.getD x.2 false = true := (by intro x hx he; simp only [List.mem_cons, List.not_mem_nil, or_false] at hx; rcases hx with rfl | rfl; all_goals first | (exact absurd he (by decide)) | assumption)
          clear hsz hdep hout hlat
          go_simp
          exact hK _ _ (hJ.plain HTY (by rw [hls]; decide) (Ex.alloc _ _) (by rw [hT]; exact ⟨_, rfl, hJ.lo, Bk.new rfl _ _⟩) hord)
        · rw [if_pos (by rfl)]
          intro K hK
          have q7 := hlat 7 12 _ rfl rfl ⟨⟨7, .phase⟩, by simp, rfl, rfl⟩
          have hord : ∀ x ∈ ([(11, 5), (12, 10)] : List (Nat × Nat)), x.1 = 7 → listed.getD x.2 false = true := (by intro x hx he; simp only [List.mem_cons, List.not_mem_nil, or_false] at hx; rcases hx with rfl | rfl; all_goals first | (exact absurd he (by decide)) | assumption)
          refine wp_mv _ rfl (hK _ _ ?_)
          rw [show a.eval (.tmp 7) = .slice adh N caph from q7]
          exact hJ.plain HTY (by rw [hls]; decide) (Ex.refl _) (by rw [hT]; rfl) hord
        · rw [if_pos (by rfl)]
          intro K hK
          have dd74 := hdep ⟨6, .data⟩ (by simp) rfl
          have q74 := dd74.2 _ rfl _ rfl
          have h74 := hJ.vals 6 dd74.1 (fun c hc => by have hc : some 8 = some c := hc; cases hc; exact hun)
          rw [hT] at h74
          have h74 : Emp w6.heap.size w2 4 (f 6) := h74
          clear dd74
          have dd75 := hdep ⟨7, .data⟩ (by simp) rfl
          have q75 := dd75.2 _ rfl _ rfl
          have h75 := hJ.vals 7 dd75.1 (fun c hc => by have hc : none = some c := hc; cases hc)
          rw [hT] at h75
          rw [show f 7 = .slice adh N caph from h75] at q75
          clear h75
          clear dd75
          have hord : ∀ x ∈ ([(11, 5), (12, 10)] : List (Nat × Nat)), x.1 = 8 → listed.getD x.2 false = true := (by intro x hx he; simp only [List.mem_cons, List.not_mem_nil, or_false] at hx; rcases hx with rfl | rfl; all_goals first | (exact absurd he (by decide)) | assumption)
          exact wp_rd0 (.tmp 74) (.tmp 75) 85 4 (.bool false) 1 1 rfl Try.underlying85 Try.infoBool rfl (by decide) w6.heap.size _ q74 h74 hJ.lo adh (N) (caph) _ q75 (HRH.out.ext hJ.ext.below) clh NLH.out (hC_one ls) (by omega) (by omega) (fun v' w' r1 r2 => hK _ _ (hJ.plain HTY (by rw [hls]; decide) r2 (by rw [hT]; exact r1) hord))
        · rw [if_pos (by rfl)]
          intro K hK
          have hord : ∀ x ∈ ([(11, 5), (12, 10)] : List (Nat × Nat)), x.1 = 9 → listed.getD x.2 false = true := (by intro x hx he; simp only [List.mem_cons, List.not_mem_nil, or_false] at hx; rcases hx with rfl | rfl; all_goals first | (exact absurd he (by decide)) | assumption)
          clear hsz hdep hout hlat
          go_simp
          exact hK _ _ (hJ.plain HTY (by rw [hls]; decide) (Ex.alloc _ _) (by rw [hT]; exact ⟨_, rfl, Bk.new rfl _ _⟩) hord)
        · rw [if_pos (by rfl)]
          intro K hK
          have dd76 := hdep ⟨8, .data⟩ (by simp) rfl
          have q76 := dd76.2 _ rfl _ rfl
          have h76 := hJ.vals 8 dd76.1 (fun c hc => by have hc : some 10 = some c := hc; cases hc; exact hun)
          rw [hT] at h76
          have h76 : w2.ownsRow w6.heap.size 4 1 (f 8) (N) (hC ls) := h76
          obtain ⟨v76, e76⟩ : ∃ v, v = f 8 := ⟨_, rfl⟩
          rw [← e76] at h76 q76
          clear e76
          clear dd76
          have dd77 := hdep ⟨9, .data⟩ (by simp) rfl
          have q77 := dd77.2 _ rfl _ rfl
          have h77 := hJ.vals 9 dd77.1 (fun c hc => by have hc : some 10 = some c := hc; cases hc; exact hun)
          rw [hT] at h77
          have h77 : One w2 4 ([.bool false]) (f 9) := h77
          clear dd77
          have hord : ∀ x ∈ ([(11, 5), (12, 10)] : List (Nat × Nat)), x.1 = 10 → listed.getD x.2 false = true := (by intro x hx he; simp only [List.mem_cons, List.not_mem_nil, or_false] at hx; rcases hx with rfl | rfl; all_goals first | (exact absurd he (by decide)) | assumption)
          obtain ⟨adx, ex, nx, rx⟩ := h77.rd
          rw [ex] at q77
          refine wp_rd (.tmp 76) (.tmp 77) 85 4 (.bool false) 1 1 rfl Try.underlying85 Try.infoBool rfl (by decide) w6.heap.size _ _ _ q76 h76 hJ.lo adx 1 1 _ q77 rx (Nat.le_refl _) (fun h => absurd (nx h) (by decide)) (fun u hu => by rw [List.mem_singleton.1 hu]; rfl) (by omega) (by omega) (fun v' w' r1 r2 => hK _ _ (hJ.next HTY (by rw [hls]; decide) [4] (by decide) (by decide) r2 (by rw [hT]; exact r1) ?_ hord))
          intro j hj hin hl
          have hm := mem_tys (by decide) hin
          rw [show (List.range (List.length ([70, 0, 70, 0, 70, 70, 4, 0, 4, 4, 4, 70, 4] : List Nat))).filter (fun j => List.getD ([70, 0, 70, 0, 70, 70, 4, 0, 4, 4, 4, 70, 4] : List Nat) j 0 == 4) = [6, 8, 9, 10, 12] from by decide] at hm
          simp only [List.mem_cons, List.not_mem_nil, or_false] at hm
          rcases hm with rfl | rfl | rfl | rfl | rfl
          · exact ⟨8, rfl, Or.inr (hdep ⟨8, .data⟩ (by simp) rfl).1⟩
          · exact ⟨10, rfl, Or.inl rfl⟩
          · exact ⟨10, rfl, Or.inl rfl⟩
          · exact absurd rfl hj
          · exact absurd (hJ.ord (12, 10) (by simp) hl) (by rw [hun]; decide)
        · rw [if_pos (by rfl)]
          intro K hK
          have dd73 := hdep ⟨5, .data⟩ (by simp) rfl
          have q73 := dd73.2 _ rfl _ rfl
          have h73 := hJ.vals 5 dd73.1 (fun c hc => by have hc : none = some c := hc; cases hc)
          rw [hT] at h73
          have h73 : w2.ownsRow w6.heap.size 70 4 (f 5) (N + 1) (mC ls ++ z.C) := h73
          obtain ⟨v73, e73⟩ : ∃ v, v = f 5 := ⟨_, rfl⟩
          rw [← e73] at h73 q73
          clear e73
          clear dd73
          have hl5 := (hdep ⟨5, .data⟩ (by simp) rfl).1
          have hord : ∀ x ∈ ([(11, 5), (12, 10)] : List (Nat × Nat)), x.1 = 11 → listed.getD x.2 false = true := (by intro x hx he; simp only [List.mem_cons, List.not_mem_nil, or_false] at hx; rcases hx with rfl | rfl; all_goals first | (exact absurd he (by decide)) | assumption)
          rw [Array.getD_eq_getD_getElem?] at q73
          clear hsz hdep hout hlat
          go_simp
          exact hK _ _ (hJ.plain HTY (by rw [hls]; decide) (Ex.refl _) (by rw [hT]; exact h73) hord)
        · rw [if_pos (by rfl)]
          intro K hK
          have dd78 := hdep ⟨10, .data⟩ (by simp) rfl
          have q78 := dd78.2 _ rfl _ rfl
          have h78 := hJ.vals 10 dd78.1 (fun c hc => by have hc : none = some c := hc; cases hc)
          rw [hT] at h78
          have h78 : w2.ownsRow w6.heap.size 4 1 (f 10) (N + 1) (hC ls ++ [.bool false]) := h78
          obtain ⟨v78, e78⟩ : ∃ v, v = f 10 := ⟨_, rfl⟩
          rw [← e78] at h78 q78
          clear e78
          clear dd78
          have hl10 := (hdep ⟨10, .data⟩ (by simp) rfl).1
          have hord : ∀ x ∈ ([(11, 5), (12, 10)] : List (Nat × Nat)), x.1 = 12 → listed.getD x.2 false = true := (by intro x hx he; simp only [List.mem_cons, List.not_mem_nil, or_false] at hx; rcases hx with rfl | rfl; all_goals first | (exact absurd he (by decide)) | assumption)
          rw [Array.getD_eq_getD_getElem?] at q78
          clear hsz hdep hout hlat
          go_simp
          exact hK _ _ (hJ.plain HTY (by rw [hls]; decide) (Ex.refl _) (by rw [hT]; exact h78) hord)
      · intro listed f w2 hall hJ
        have o11 := hJ.vals 11 (hall 11 (by simp)) (fun c hc => by have hc : none = some c := hc; cases hc)
        rw [hT] at o11
        have o11 : w2.ownsRow w6.heap.size 70 4 (f 11) (N + 1) (mC ls ++ z.C) := o11
        have o12 := hJ.vals 12 (hall 12 (by simp)) (fun c hc => by have hc : none = some c := hc; cases hc)
        rw [hT] at o12
        have o12 : w2.ownsRow w6.heap.size 4 1 (f 12) (N + 1) (hC ls ++ [.bool false]) := o12
        have xw : Ex w6 w2 := hJ.ext.below
        simp only [putAll, Act.put, List.setIfInBounds_toArray, List.set_cons_zero, List.set_cons_succ, Nat.zero_add, Nat.reduceAdd]
        generalize f 11 = nm at o11 ⊢
        generalize f 12 = nh at o12 ⊢
        clear hJ hall hT HTY
        generalize f 0 = y0
        generalize f 1 = y1
        generalize f 2 = y2
        generalize f 3 = y3
        generalize f 4 = y4
        generalize f 5 = y5
        generalize f 6 = y6
        generalize f 7 = y7
        generalize f 8 = y8
        generalize f 9 = y9
        generalize f 10 = y10
        have hel : (ls ++ [(false, z)]).length = N + 1 := by rw [List.length_append, ← HN.out]; rfl
        replace P := Lib.hid (P.out.rows xw w6.heap.size P.out.ext.sz o11 o12 hel hel (mC_app ls (false, z)) (hC_app ls (false, z)) (fun x hx => by
                  rcases List.mem_append.1 hx with hx | hx
                  · exact Or.inl hx
                  · rw [List.mem_singleton.1 hx]; exact Or.inr HZB.out))
        rw [show ctO ls ++ [(false, z.ct)] = ctO (ls ++ [(false, z)]) from by unfold ctO; rw [List.map_append]; rfl] at P
        clear o11 o12 xw hel
        go_wp2_with (first | (with_reducible refine stop_load (t := 70) ?_) | (with_reducible refine stop_store (t := 70) ?_) | (with_reducible refine stop_load (t := 72) ?_) | (with_reducible refine stop_store (t := 72) ?_) | (with_reducible refine stop_build (t := 70) ?_))
        refine (same_st P.out).mono ?_
        rintro e wz ⟨rfl, xx⟩
        replace P := Lib.hid (P.out.ex xx)
        clear xx
        go_wp2_with (first | (with_reducible refine stop_load (t := 70) ?_) | (with_reducible refine stop_store (t := 70) ?_) | (with_reducible refine stop_load (t := 72) ?_) | (with_reducible refine stop_store (t := 72) ?_) | (with_reducible refine stop_build (t := 70) ?_))
        refine ⟨⟨_, _, k + 1, ls ++ [(false, z)], ⟨by omega, P⟩, rfl, rfl, rfl, rfl, rfl, rfl, rfl, rfl, rfl⟩, by simp [p21M, intOf]; omega⟩
    · have h64i : ¬ (N : Int) < 64 := by omega
      rw [decide_eq_false h64, if_neg (by simp)] at HPA
      go_wp2_with (first | (with_reducible refine stop_load (t := 70) ?_) | (with_reducible refine stop_store (t := 70) ?_) | (with_reducible refine stop_load (t := 72) ?_) | (with_reducible refine stop_store (t := 72) ?_) | (with_reducible refine stop_build (t := 70) ?_))
      refine HPA.out.mono ?_
      rintro e w6 ⟨rfl, hof, hft⟩
      replace P := Lib.hid (P.out.ft hft hof)
      clear hof hft HPA
      go_wp2_with (first | (with_reducible refine stop_load (t := 70) ?_) | (with_reducible refine stop_store (t := 70) ?_) | (with_reducible refine stop_load (t := 72) ?_) | (with_reducible refine stop_store (t := 72) ?_) | (with_reducible refine stop_build (t := 70) ?_))
      refine (same_st P.out).mono ?_
      rintro e wz ⟨rfl, xx⟩
      replace P := Lib.hid (P.out.ex xx)
      clear xx
      go_wp2_with (first | (with_reducible refine stop_load (t := 70) ?_) | (with_reducible refine stop_store (t := 70) ?_) | (with_reducible refine stop_load (t := 72) ?_) | (with_reducible refine stop_store (t := 72) ?_) | (with_reducible refine stop_build (t := 70) ?_))
      refine ⟨⟨_, _, k + 1, ls, ⟨by omega, P⟩, rfl, rfl, rfl, rfl, rfl, rfl, rfl, rfl, rfl⟩, by simp [p21M, intOf]; omega⟩
  · have r0 : (0 : Int) ≤ (N : Int) := by omega
    have r1 : ¬ (N : Int) < (N : Int) := by omega
    have hk4 := hkd.1
    have hk5 := hkd.2.1
    have hk7 := hkd.2.2.1
    have hk8 := hkd.2.2.2.1
    have hk9 := hkd.2.2.2.2
    clear hkd
    go_wp2_with (first | (with_reducible refine stop_load (t := 70) ?_) | (with_reducible refine stop_store (t := 70) ?_) | (with_reducible refine stop_load (t := 72) ?_) | (with_reducible refine stop_store (t := 72) ?_) | (with_reducible refine stop_build (t := 70) ?_))
    (with_reducible refine ⟨?_⟩); (with_reducible refine at_any ?_ ?_); (focus go_simp); refine fun K0 hK => wp_load_mid 70 _ rfl g 2 rfl A.x.C _ (HGA.out.part 2 A.x.C rfl) Try.underlying70 rfl (by rw [Try.sizeLt]; rfl) (hK _ _ ?_)
    clear hK
    go_wp2_with (first | (with_reducible refine stop_load (t := 70) ?_) | (with_reducible refine stop_store (t := 70) ?_) | (with_reducible refine stop_load (t := 72) ?_) | (with_reducible refine stop_store (t := 72) ?_) | (with_reducible refine stop_build (t := 70) ?_))
    skip
    have P2 := P
    (with_reducible refine ⟨?_⟩); (with_reducible refine at_any ?_ ?_); (focus go_simp); refine fun K0 hK => st_lx _ _ w2.heap.size 70 Try.sizeLt A.x rfl rfl rfl HAI.out.x.ok (Bk.new rfl _ _) (by rfl) (fun w4 hd9 ho => hK _ _ ?_)
    clear hK
    have xx : Ex w2 w4 := ho.below w2.heap.size (Nat.le_refl _) w2 (Ex.alloc w2 _)
    replace P := Lib.hid (P.out.ex xx)
    have XQ := Lib.hid xx
    have YI := Lib.hid (HAI.out.x.b.ext P.out.ext)
    obtain ⟨g2, hg⟩ : ∃ g, g = w2.heap.size := ⟨_, rfl⟩
    have HGE := Lib.hid (Nat.le_of_eq hg.symm)
    rw [← hg] at hd9 ⊢
    have HG2 := Lib.hid hd9
    have d3 := (LB.cells hd9).2.2.2
    clear xx ho hd9 hg c0 c1
    go_wp2_with (first | (with_reducible refine stop_load (t := 70) ?_) | (with_reducible refine stop_store (t := 70) ?_) | (with_reducible refine stop_load (t := 72) ?_) | (with_reducible refine stop_store (t := 72) ?_) | (with_reducible refine stop_build (t := 70) ?_))
    refine (cut_any A.x.bs 30 (by omega) (by omega) HAI.out.x.n w4 YI.out).mono ?_
    rintro e w5 ⟨rfl, rfl⟩
    go_wp2_with (first | (with_reducible refine stop_store (t := 28) ?_) |  (with_reducible refine stop_load (t := 70) ?_) | (with_reducible refine stop_store (t := 70) ?_) | (with_reducible refine stop_load (t := 72) ?_) | (with_reducible refine stop_store (t := 72) ?_) | (with_reducible refine stop_build (t := 70) ?_))
    (with_reducible refine ⟨?_⟩); (with_reducible refine at_any ?_ ?_); (focus go_simp); refine fun K0 hK => st_lbs (by kernel_rfl) _ _ g2 A.x (Pt.mk A.x.bs.ad A.x.bs.cap (A.x.bs.l.take 30)) rfl rfl rfl HG2.out (fun w5 hd ho => hK _ _ ?_)
    clear hK
    have hbt : (A.x.bs.l.take 30).length ≤ 30 := by rw [List.length_take]; omega
    obtain ⟨z, hz⟩ : ∃ z : Lt, z = { A.x with bs := Pt.mk A.x.bs.ad A.x.bs.cap (A.x.bs.l.take 30) } := ⟨_, rfl⟩
    rw [← hz] at hd
    have HZB : Hid (z.Ok ∧ z.bs.In w w.heap.size ∧ z.bs.l.length ≤ 30) := Lib.hid (by rw [hz]; exact ⟨⟨HAI.out.x.k.1, HAI.out.x.k.2, HAI.out.x.f.1, HAI.out.x.f.2, HAI.out.x.t.1, HAI.out.x.t.2⟩, HAI.out.x.b.take 30, hbt⟩)
    skip
    have hPO := P2.out.ex (ho.below w2.heap.size HGE.out w2 XQ.out)
    replace P := Lib.hid hPO
    replace HG2 := Lib.hid hd
    clear hd ho hz hbt hPO d3 YI
    go_wp2_with (first | (with_reducible refine stop_load (t := 70) ?_) | (with_reducible refine stop_store (t := 70) ?_) | (with_reducible refine stop_load (t := 72) ?_) | (with_reducible refine stop_store (t := 72) ?_) | (with_reducible refine stop_build (t := 70) ?_))
    (with_reducible refine ⟨?_⟩); (with_reducible refine at_any ?_ ?_); (focus go_simp); refine fun K0 hK => ld_lx _ g2 70 z rfl rfl HG2.out (hK _ _ ?_)
    clear hK
    have HPA := Lib.hid (put_any O (ctO ls) z w5 P.out.off HZB.out.1 (HZB.out.2.1.ext P.out.ext) (Nat.le_trans HZB.out.2.2 (by decide)))
    have hcp : canPut (ctO ls).length z.bs.l.length = decide (N < 64) := by unfold canPut; rw [ctO_len, ← HN.out, decide_eq_true (Nat.le_trans HZB.out.2.2 (show 30 ≤ 8192 by decide)), Bool.and_true]
    rw [hcp] at HPA
    clear hcp
    by_cases h64 : N < 64
    · have h64i : (N : Int) < 64 := by omega
      rw [decide_eq_true h64, if_pos rfl] at HPA
      go_wp2_with (first | (with_reducible refine stop_load (t := 70) ?_) | (with_reducible refine stop_store (t := 70) ?_) | (with_reducible refine stop_load (t := 72) ?_) | (with_reducible refine stop_store (t := 72) ?_) | (with_reducible refine stop_build (t := 70) ?_))
      refine HPA.out.mono ?_
      rintro e w6 ⟨rfl, hof, hft⟩
      replace HG2 := Lib.hid (And.intro HG2.out.1 (HG2.out.2.ft hft))
      replace P := Lib.hid (P.out.ft hft hof)
      clear hof hft HPA XW HBIN HGA
      go_wp2_with (first | (with_reducible refine stop_load (t := 70) ?_) | (with_reducible refine stop_store (t := 70) ?_) | (with_reducible refine stop_load (t := 72) ?_) | (with_reducible refine stop_store (t := 72) ?_) | (with_reducible refine stop_build (t := 70) ?_))
      obtain ⟨-, nlm, clm, xlm, RM⟩ := own_form P.out.mrow
      obtain ⟨-, nlh, clh, xlh, RH⟩ := own_form P.out.hrow
      rw [← HN.out] at clm RM clh RH
      have HRM := Lib.hid RM
      have HRH := Lib.hid RH
      have NLM := Lib.hid nlm
      have NLH := Lib.hid nlh
      clear RM RH nlm nlh
      go_wp2_with fail
      obtain ⟨T, hT⟩ : ∃ T : List (Rv w6.heap.size), T = [.emp 70, .is (.slice adm N capm), .own 70 4 (N) (mC ls), .is (z.V), .one 70 (z.C), .own 70 4 (N + 1) (mC ls ++ z.C), .emp 4, .is (.slice adh N caph), .own 4 1 (N) (hC ls), .one 4 ([.bool false]), .own 4 1 (N + 1) (hC ls ++ [.bool false]), .own 70 4 (N + 1) (mC ls ++ z.C), .own 4 1 (N + 1) (hC ls ++ [.bool false])] := ⟨_, rfl⟩
      have HTY : T.map Rv.ty = ([70, 0, 70, 0, 70, 70, 4, 0, 4, 4, 4, 70, 4] : List Nat) := by rw [hT]; rfl
      refine wp_region_gen (JR w6.heap.size w6 [70, 4] T ([70, 0, 70, 0, 70, 70, 4, 0, 4, 4, 4, 70, 4] : List Nat) ([some 2, none, some 5, none, some 5, none, some 8, none, some 10, some 10, none, none, none] : List (Option Nat)) ([(11, 5), (12, 10)] : List (Nat × Nat))) (by kernel_rfl) (by kernel_rfl) (by kernel_rfl) (fitB_spec (by kernel_rfl)) (fun listed f h => JR.start (Nat.le_refl _) listed f h) ?_ ?_
      · intro i o ho
        have hi : i < 13 := (Array.getElem?_eq_some_iff.1 ho).1
        have hi' : i = 0 ∨ i = 1 ∨ i = 2 ∨ i = 3 ∨ i = 4 ∨ i = 5 ∨ i = 6 ∨ i = 7 ∨ i = 8 ∨ i = 9 ∨ i = 10 ∨ i = 11 ∨ i = 12 := by omega
        clear hi
        rcases hi' with rfl | rfl | rfl | rfl | rfl | rfl | rfl | rfl | rfl | rfl | rfl | rfl | rfl
        all_goals (simp only [List.getElem?_toArray, List.getElem?_cons_zero, List.getElem?_cons_succ, Option.some.injEq] at ho; subst ho; intro listed f a w2 hJ hsz hls hun hdep hout hlat)
        · rw [if_pos (by rfl)]
          intro K hK
          have hord : ∀ x ∈ ([(11, 5), (12, 10)] : List (Nat × Nat)), x.1 = 0 → listed.getD x.2 false = true := (by intro x hx he; simp only [List.mem_cons, List.not_mem_nil, or_false] at hx; rcases hx with rfl | rfl; all_goals first | (exact absurd he (by decide)) | assumption)
          clear hsz hdep hout hlat
          go_simp
          exact hK _ _ (hJ.plain HTY (by rw [hls]; decide) (Ex.alloc _ _) (by rw [hT]; exact ⟨_, rfl, hJ.lo, Bk.new rfl _ _⟩) hord)
        · rw [if_pos (by rfl)]
          intro K hK
          have q6 := hlat 6 11 _ rfl rfl ⟨⟨1, .phase⟩, by simp, rfl, rfl⟩
          have hord : ∀ x ∈ ([(11, 5), (12, 10)] : List (Nat × Nat)), x.1 = 1 → listed.getD x.2 false = true := (by intro x hx he; simp only [List.mem_cons, List.not_mem_nil, or_false] at hx; rcases hx with rfl | rfl; all_goals first | (exact absurd he (by decide)) | assumption)
          refine wp_mv _ rfl (hK _ _ ?_)
          rw [show a.eval (.tmp 6) = .slice adm N capm from q6]
          exact hJ.plain HTY (by rw [hls]; decide) (Ex.refl _) (by rw [hT]; rfl) hord
        · rw [if_pos (by rfl)]
          intro K hK
          have dd68 := hdep ⟨0, .data⟩ (by simp) rfl
          have q68 := dd68.2 _ rfl _ rfl
          have h68 := hJ.vals 0 dd68.1 (fun c hc => by have hc : some 2 = some c := hc; cases hc; exact hun)
          rw [hT] at h68
          have h68 : Emp w6.heap.size w2 70 (f 0) := h68
          clear dd68
          have dd69 := hdep ⟨1, .data⟩ (by simp) rfl
          have q69 := dd69.2 _ rfl _ rfl
          have h69 := hJ.vals 1 dd69.1 (fun c hc => by have hc : none = some c := hc; cases hc)
          rw [hT] at h69
          rw [show f 1 = .slice adm N capm from h69] at q69
          clear h69
          clear dd69
          have hord : ∀ x ∈ ([(11, 5), (12, 10)] : List (Nat × Nat)), x.1 = 2 → listed.getD x.2 false = true := (by intro x hx he; simp only [List.mem_cons, List.not_mem_nil, or_false] at hx; rcases hx with rfl | rfl; all_goals first | (exact absurd he (by decide)) | assumption)
          exact wp_rd0 (.tmp 68) (.tmp 69) 78 70 zeroLt.V 4 48 rfl Try.underlying78 Try.infoLt rfl (by decide) w6.heap.size _ q68 h68 hJ.lo adm (N) (capm) _ q69 (HRM.out.ext hJ.ext.below) clm NLM.out (mC_one ls) (by omega) (by omega) (fun v' w' r1 r2 => hK _ _ (hJ.plain HTY (by rw [hls]; decide) r2 (by rw [hT]; exact r1) hord))
        · rw [if_pos (by rfl)]
          intro K hK
          have q18 := hout 18 (outB_spec (by kernel_rfl))
          have hord : ∀ x ∈ ([(11, 5), (12, 10)] : List (Nat × Nat)), x.1 = 3 → listed.getD x.2 false = true := (by intro x hx he; simp only [List.mem_cons, List.not_mem_nil, or_false] at hx; rcases hx with rfl | rfl; all_goals first | (exact absurd he (by decide)) | assumption)
          exact ld_lx (.tmp 18) g2 70 z rfl q18 (LX.ext HG2.out hJ.ext.below) (hK _ _ (hJ.plain HTY (by rw [hls]; decide) (Ex.refl _) (by rw [hT]; rfl) hord))
        · rw [if_pos (by rfl)]
          intro K hK
          have dd71 := hdep ⟨3, .data⟩ (by simp) rfl
          have q71 := dd71.2 _ rfl _ rfl
          have h71 := hJ.vals 3 dd71.1 (fun c hc => by have hc : none = some c := hc; cases hc)
          rw [hT] at h71
          rw [show f 3 = z.V from h71] at q71
          clear h71
          clear dd71
          have hord : ∀ x ∈ ([(11, 5), (12, 10)] : List (Nat × Nat)), x.1 = 4 → listed.getD x.2 false = true := (by intro x hx he; simp only [List.mem_cons, List.not_mem_nil, or_false] at hx; rcases hx with rfl | rfl; all_goals first | (exact absurd he (by decide)) | assumption)
          exact wp_bsl (.tmp 71) z rfl q71 (hK _ _ (hJ.plain HTY (by rw [hls]; decide) (Ex.alloc _ _) (by rw [hT]; exact ⟨_, rfl, Bk.new rfl _ _⟩) hord))
        · rw [if_pos (by rfl)]
          intro K hK
          have dd70 := hdep ⟨2, .data⟩ (by simp) rfl
          have q70 := dd70.2 _ rfl _ rfl
          have h70 := hJ.vals 2 dd70.1 (fun c hc => by have hc : some 5 = some c := hc; cases hc; exact hun)
          rw [hT] at h70
          have h70 : w2.ownsRow w6.heap.size 70 4 (f 2) (N) (mC ls) := h70
          obtain ⟨v70, e70⟩ : ∃ v, v = f 2 := ⟨_, rfl⟩
          rw [← e70] at h70 q70
          clear e70
          clear dd70
          have dd72 := hdep ⟨4, .data⟩ (by simp) rfl
          have q72 := dd72.2 _ rfl _ rfl
          have h72 := hJ.vals 4 dd72.1 (fun c hc => by have hc : some 5 = some c := hc; cases hc; exact hun)
          rw [hT] at h72
          have h72 : One w2 70 (z.C) (f 4) := h72
          clear dd72
          have hord : ∀ x ∈ ([(11, 5), (12, 10)] : List (Nat × Nat)), x.1 = 5 → listed.getD x.2 false = true := (by intro x hx he; simp only [List.mem_cons, List.not_mem_nil, or_false] at hx; rcases hx with rfl | rfl; all_goals first | (exact absurd he (by decide)) | assumption)
          obtain ⟨adx, ex, nx, rx⟩ := h72.rd
          rw [ex] at q72
          refine wp_rd (.tmp 70) (.tmp 72) 78 70 zeroLt.V 4 48 rfl Try.underlying78 Try.infoLt rfl (by decide) w6.heap.size _ _ _ q70 h70 hJ.lo adx 1 1 _ q72 rx (Nat.le_refl _) (fun h => absurd (nx h) (by decide)) (Lt.C_one z) (by omega) (by omega) (fun v' w' r1 r2 => hK _ _ (hJ.next HTY (by rw [hls]; decide) [70] (by decide) (by decide) r2 (by rw [hT]; exact r1) ?_ hord))
          intro j hj hin hl
          have hm := mem_tys (by decide) hin
          rw [show (List.range (List.length ([70, 0, 70, 0, 70, 70, 4, 0, 4, 4, 4, 70, 4] : List Nat))).filter (fun j => List.getD ([70, 0, 70, 0, 70, 70, 4, 0, 4, 4, 4, 70, 4] : List Nat) j 0 == 70) = [0, 2, 4, 5, 11] from by decide] at hm
          simp only [List.mem_cons, List.not_mem_nil, or_false] at hm
          rcases hm with rfl | rfl | rfl | rfl | rfl
          · exact ⟨2, rfl, Or.inr (hdep ⟨2, .data⟩ (by simp) rfl).1⟩
          · exact ⟨5, rfl, Or.inl rfl⟩
          · exact ⟨5, rfl, Or.inl rfl⟩
          · exact absurd rfl hj
          · exact absurd (hJ.ord (11, 5) (by simp) hl) (by rw [hun]; decide)
        · rw [if_pos (by rfl)]
          intro K hK
          have hord : ∀ x ∈ ([(11, 5), (12, 10)] : List (Nat × Nat)), x.1 = 6 → listed.getD x.2 false = true := (by intro x hx he; simp only [List.mem_cons, List.not_mem_nil, or_false] at hx; rcases hx with rfl | rfl; all_goals first | (exact absurd he (by decide)) | assumption)
          clear hsz hdep hout hlat
          go_simp
          exact hK _ _ (hJ.plain HTY (by rw [hls]; decide) (Ex.alloc _ _) (by rw [hT]; exact ⟨_, rfl, hJ.lo, Bk.new rfl _ _⟩) hord)
        · rw [if_pos (by rfl)]
          intro K hK
          have q7 := hlat 7 12 _ rfl rfl ⟨⟨7, .phase⟩, by simp, rfl, rfl⟩
          have hord : ∀ x ∈ ([(11, 5), (12, 10)] : List (Nat × Nat)), x.1 = 7 → listed.getD x.2 false = true := (by intro x hx he; simp only [List.mem_cons, List.not_mem_nil, or_false] at hx; rcases hx with rfl | rfl; all_goals first | (exact absurd he (by decide)) | assumption)
          refine wp_mv _ rfl (hK _ _ ?_)
          rw [show a.eval (.tmp 7) = .slice adh N caph from q7]
          exact hJ.plain HTY (by rw [hls]; decide) (Ex.refl _) (by rw [hT]; rfl) hord
        · rw [if_pos (by rfl)]
          intro K hK
          have dd74 := hdep ⟨6, .data⟩ (by simp) rfl
          have q74 := dd74.2 _ rfl _ rfl
          have h74 := hJ.vals 6 dd74.1 (fun c hc => by have hc : some 8 = some c := hc; cases hc; exact hun)
          rw [hT] at h74
          have h74 : Emp w6.heap.size w2 4 (f 6) := h74
          clear dd74
          have dd75 := hdep ⟨7, .data⟩ (by simp) rfl
          have q75 := dd75.2 _ rfl _ rfl
          have h75 := hJ.vals 7 dd75.1 (fun c hc => by have hc : none = some c := hc; cases hc)
          rw [hT] at h75
          rw [show f 7 = .slice adh N caph from h75] at q75
          clear h75
          clear dd75
          have hord : ∀ x ∈ ([(11, 5), (12, 10)] : List (Nat × Nat)), x.1 = 8 → listed.getD x.2 false = true := (by intro x hx he; simp only [List.mem_cons, List.not_mem_nil, or_false] at hx; rcases hx with rfl | rfl; all_goals first | (exact absurd he (by decide)) | assumption)
          exact wp_rd0 (.tmp 74) (.tmp 75) 85 4 (.bool false) 1 1 rfl Try.underlying85 Try.infoBool rfl (by decide) w6.heap.size _ q74 h74 hJ.lo adh (N) (caph) _ q75 (HRH.out.ext hJ.ext.below) clh NLH.out (hC_one ls) (by omega) (by omega) (fun v' w' r1 r2 => hK _ _ (hJ.plain HTY (by rw [hls]; decide) r2 (by rw [hT]; exact r1) hord))
        · rw [if_pos (by rfl)]
          intro K hK
          have hord : ∀ x ∈ ([(11, 5), (12, 10)] : List (Nat × Nat)), x.1 = 9 → listed.getD x.2 false = true := (by intro x hx he; simp only [List.mem_cons, List.not_mem_nil, or_false] at hx; rcases hx with rfl | rfl; all_goals first | (exact absurd he (by decide)) | assumption)
          clear hsz hdep hout hlat
          go_simp
          exact hK _ _ (hJ.plain HTY (by rw [hls]; decide) (Ex.alloc _ _) (by rw [hT]; exact ⟨_, rfl, Bk.new rfl _ _⟩) hord)
        · rw [if_pos (by rfl)]
          intro K hK
          have dd76 := hdep ⟨8, .data⟩ (by simp) rfl
          have q76 := dd76.2 _ rfl _ rfl
          have h76 := hJ.vals 8 dd76.1 (fun c hc => by have hc : some 10 = some c := hc; cases hc; exact hun)
          rw [hT] at h76
          have h76 : w2.ownsRow w6.heap.size 4 1 (f 8) (N) (hC ls) := h76
          obtain ⟨v76, e76⟩ : ∃ v, v = f 8 := ⟨_, rfl⟩
          rw [← e76] at h76 q76
          clear e76
          clear dd76
          have dd77 := hdep ⟨9, .data⟩ (by simp) rfl
          have q77 := dd77.2 _ rfl _ rfl
          have h77 := hJ.vals 9 dd77.1 (fun c hc => by have hc : some 10 = some c := hc; cases hc; exact hun)
          rw [hT] at h77
          have h77 : One w2 4 ([.bool false]) (f 9) := h77
          clear dd77
          have hord : ∀ x ∈ ([(11, 5), (12, 10)] : List (Nat × Nat)), x.1 = 10 → listed.getD x.2 false = true := (by intro x hx he; simp only [List.mem_cons, List.not_mem_nil, or_false] at hx; rcases hx with rfl | rfl; all_goals first | (exact absurd he (by decide)) | assumption)
          obtain ⟨adx, ex, nx, rx⟩ := h77.rd
          rw [ex] at q77
          refine wp_rd (.tmp 76) (.tmp 77) 85 4 (.bool false) 1 1 rfl Try.underlying85 Try.infoBool rfl (by decide) w6.heap.size _ _ _ q76 h76 hJ.lo adx 1 1 _ q77 rx (Nat.le_refl _) (fun h => absurd (nx h) (by decide)) (fun u hu => by rw [List.mem_singleton.1 hu]; rfl) (by omega) (by omega) (fun v' w' r1 r2 => hK _ _ (hJ.next HTY (by rw [hls]; decide) [4] (by decide) (by decide) r2 (by rw [hT]; exact r1) ?_ hord))
          intro j hj hin hl
          have hm := mem_tys (by decide) hin
          rw [show (List.range (List.length ([70, 0, 70, 0, 70, 70, 4, 0, 4, 4, 4, 70, 4] : List Nat))).filter (fun j => List.getD ([70, 0, 70, 0, 70, 70, 4, 0, 4, 4, 4, 70, 4] : List Nat) j 0 == 4) = [6, 8, 9, 10, 12] from by decide] at hm
          simp only [List.mem_cons, List.not_mem_nil, or_false] at hm
          rcases hm with rfl | rfl | rfl | rfl | rfl
          · exact ⟨8, rfl, Or.inr (hdep ⟨8, .data⟩ (by simp) rfl).1⟩
          · exact ⟨10, rfl, Or.inl rfl⟩
          · exact ⟨10, rfl, Or.inl rfl⟩
          · exact absurd rfl hj
          · exact absurd (hJ.ord (12, 10) (by simp) hl) (by rw [hun]; decide)
        · rw [if_pos (by rfl)]
          intro K hK
          have dd73 := hdep ⟨5, .data⟩ (by simp) rfl
          have q73 := dd73.2 _ rfl _ rfl
          have h73 := hJ.vals 5 dd73.1 (fun c hc => by have hc : none = some c := hc; cases hc)
          rw [hT] at h73
          have h73 : w2.ownsRow w6.heap.size 70 4 (f 5) (N + 1) (mC ls ++ z.C) := h73
          obtain ⟨v73, e73⟩ : ∃ v, v = f 5 := ⟨_, rfl⟩
          rw [← e73] at h73 q73
          clear e73
          clear dd73
          have hl5 := (hdep ⟨5, .data⟩ (by simp) rfl).1
          have hord : ∀ x ∈ ([(11, 5), (12, 10)] : List (Nat × Nat)), x.1 = 11 → listed.getD x.2 false = true := (by intro x hx he; simp only [List.mem_cons, List.not_mem_nil, or_false] at hx; rcases hx with rfl | rfl; all_goals first | (exact absurd he (by decide)) | assumption)
          rw [Array.getD_eq_getD_getElem?] at q73
          clear hsz hdep hout hlat
          go_simp
          exact hK _ _ (hJ.plain HTY (by rw [hls]; decide) (Ex.refl _) (by rw [hT]; exact h73) hord)
        · rw [if_pos (by rfl)]
          intro K hK
          have dd78 := hdep ⟨10, .data⟩ (by simp) rfl
          have q78 := dd78.2 _ rfl _ rfl
          have h78 := hJ.vals 10 dd78.1 (fun c hc => by have hc : none = some c := hc; cases hc)
          rw [hT] at h78
          have h78 : w2.ownsRow w6.heap.size 4 1 (f 10) (N + 1) (hC ls ++ [.bool false]) := h78
          obtain ⟨v78, e78⟩ : ∃ v, v = f 10 := ⟨_, rfl⟩
          rw [← e78] at h78 q78
          clear e78
          clear dd78
          have hl10 := (hdep ⟨10, .data⟩ (by simp) rfl).1
          have hord : ∀ x ∈ ([(11, 5), (12, 10)] : List (Nat × Nat)), x.1 = 12 → listed.getD x.2 false = true := (by intro x hx he; simp only [List.mem_cons, List.not_mem_nil, or_false] at hx; rcases hx with rfl | rfl; all_goals first | (exact absurd he (by decide)) | assumption)
          rw [Array.getD_eq_getD_getElem?] at q78
          clear hsz hdep hout hlat
          go_simp
          exact hK _ _ (hJ.plain HTY (by rw [hls]; decide) (Ex.refl _) (by rw [hT]; exact h78) hord)
      · intro listed f w2 hall hJ
        have o11 := hJ.vals 11 (hall 11 (by simp)) (fun c hc => by have hc : none = some c := hc; cases hc)
        rw [hT] at o11
        have o11 : w2.ownsRow w6.heap.size 70 4 (f 11) (N + 1) (mC ls ++ z.C) := o11
        have o12 := hJ.vals 12 (hall 12 (by simp)) (fun c hc => by have hc : none = some c := hc; cases hc)
        rw [hT] at o12
        have o12 : w2.ownsRow w6.heap.size 4 1 (f 12) (N + 1) (hC ls ++ [.bool false]) := o12
        have xw : Ex w6 w2 := hJ.ext.below
        simp only [putAll, Act.put, List.setIfInBounds_toArray, List.set_cons_zero, List.set_cons_succ, Nat.zero_add, Nat.reduceAdd]
        generalize f 11 = nm at o11 ⊢
        generalize f 12 = nh at o12 ⊢
        clear hJ hall hT HTY
        generalize f 0 = y0
        generalize f 1 = y1
        generalize f 2 = y2
        generalize f 3 = y3
        generalize f 4 = y4
        generalize f 5 = y5
        generalize f 6 = y6
        generalize f 7 = y7
        generalize f 8 = y8
        generalize f 9 = y9
        generalize f 10 = y10
        have hel : (ls ++ [(false, z)]).length = N + 1 := by rw [List.length_append, ← HN.out]; rfl
        replace P := Lib.hid (P.out.rows xw w6.heap.size P.out.ext.sz o11 o12 hel hel (mC_app ls (false, z)) (hC_app ls (false, z)) (fun x hx => by
                  rcases List.mem_append.1 hx with hx | hx
                  · exact Or.inl hx
                  · rw [List.mem_singleton.1 hx]; exact Or.inr HZB.out))
        rw [show ctO ls ++ [(false, z.ct)] = ctO (ls ++ [(false, z)]) from by unfold ctO; rw [List.map_append]; rfl] at P
        clear o11 o12 xw hel
        go_wp2_with (first | (with_reducible refine stop_load (t := 70) ?_) | (with_reducible refine stop_store (t := 70) ?_) | (with_reducible refine stop_load (t := 72) ?_) | (with_reducible refine stop_store (t := 72) ?_) | (with_reducible refine stop_build (t := 70) ?_))
        refine (same_st P.out).mono ?_
        rintro e wz ⟨rfl, xx⟩
        replace P := Lib.hid (P.out.ex xx)
        clear xx
        go_wp2_with (first | (with_reducible refine stop_load (t := 70) ?_) | (with_reducible refine stop_store (t := 70) ?_) | (with_reducible refine stop_load (t := 72) ?_) | (with_reducible refine stop_store (t := 72) ?_) | (with_reducible refine stop_build (t := 70) ?_))
        refine ⟨⟨_, _, k + 1, ls ++ [(false, z)], ⟨by omega, P⟩, rfl, rfl, rfl, rfl, rfl, rfl, rfl, rfl, rfl⟩, by simp [p21M, intOf]; omega⟩
    · have h64i : ¬ (N : Int) < 64 := by omega
      rw [decide_eq_false h64, if_neg (by simp)] at HPA
      go_wp2_with (first | (with_reducible refine stop_load (t := 70) ?_) | (with_reducible refine stop_store (t := 70) ?_) | (with_reducible refine stop_load (t := 72) ?_) | (with_reducible refine stop_store (t := 72) ?_) | (with_reducible refine stop_build (t := 70) ?_))
      refine HPA.out.mono ?_
      rintro e w6 ⟨rfl, hof, hft⟩
      replace P := Lib.hid (P.out.ft hft hof)
      clear hof hft HPA
      go_wp2_with (first | (with_reducible refine stop_load (t := 70) ?_) | (with_reducible refine stop_store (t := 70) ?_) | (with_reducible refine stop_load (t := 72) ?_) | (with_reducible refine stop_store (t := 72) ?_) | (with_reducible refine stop_build (t := 70) ?_))
      refine (same_st P.out).mono ?_
      rintro e wz ⟨rfl, xx⟩
      replace P := Lib.hid (P.out.ex xx)
      clear xx
      go_wp2_with (first | (with_reducible refine stop_load (t := 70) ?_) | (with_reducible refine stop_store (t := 70) ?_) | (with_reducible refine stop_load (t := 72) ?_) | (with_reducible refine stop_store (t := 72) ?_) | (with_reducible refine stop_build (t := 70) ?_))
      refine ⟨⟨_, _, k + 1, ls, ⟨by omega, P⟩, rfl, rfl, rfl, rfl, rfl, rfl, rfl, rfl, rfl⟩, by simp [p21M, intOf]; omega⟩
  · have r0 : (0 : Int) ≤ (p : Int) := by omega
    have r1 : (p : Int) < (N : Int) := by omega
    have hk4 := hkd.1
    have hk5 := hkd.2.1
    have hk7 := hkd.2.2.1
    have hk8 := hkd.2.2.2.1
    have hk9 := hkd.2.2.2.2
    clear hkd
    go_wp2_with (first | (with_reducible refine stop_load (t := 70) ?_) | (with_reducible refine stop_store (t := 70) ?_) | (with_reducible refine stop_load (t := 72) ?_) | (with_reducible refine stop_store (t := 72) ?_) | (with_reducible refine stop_build (t := 70) ?_))
    (with_reducible refine ⟨?_⟩); (with_reducible refine at_any ?_ ?_); (focus go_simp); refine fun K0 hK => wp_load_mid 70 _ rfl g 2 rfl A.x.C _ (HGA.out.part 2 A.x.C rfl) Try.underlying70 rfl (by rw [Try.sizeLt]; rfl) (hK _ _ ?_)
    clear hK
    go_wp2_with (first | (with_reducible refine stop_load (t := 70) ?_) | (with_reducible refine stop_store (t := 70) ?_) | (with_reducible refine stop_load (t := 72) ?_) | (with_reducible refine stop_store (t := 72) ?_) | (with_reducible refine stop_build (t := 70) ?_))
    skip
    have P2 := P
    (with_reducible refine ⟨?_⟩); (with_reducible refine at_any ?_ ?_); (focus go_simp); refine fun K0 hK => st_lx _ _ w2.heap.size 70 Try.sizeLt A.x rfl rfl rfl HAI.out.x.ok (Bk.new rfl _ _) (by rfl) (fun w4 hd9 ho => hK _ _ ?_)
    clear hK
    have xx : Ex w2 w4 := ho.below w2.heap.size (Nat.le_refl _) w2 (Ex.alloc w2 _)
    replace P := Lib.hid (P.out.ex xx)
    have XQ := Lib.hid xx
    have YI := Lib.hid (HAI.out.x.b.ext P.out.ext)
    obtain ⟨g2, hg⟩ : ∃ g, g = w2.heap.size := ⟨_, rfl⟩
    have HGE := Lib.hid (Nat.le_of_eq hg.symm)
    rw [← hg] at hd9 ⊢
    have HG2 := Lib.hid hd9
    have d3 := (LB.cells hd9).2.2.2
    clear xx ho hd9 hg c0 c1
    go_wp2_with (first | (with_reducible refine stop_load (t := 70) ?_) | (with_reducible refine stop_store (t := 70) ?_) | (with_reducible refine stop_load (t := 72) ?_) | (with_reducible refine stop_store (t := 72) ?_) | (with_reducible refine stop_build (t := 70) ?_))
    refine (cut_any A.x.bs 30 (by omega) (by omega) HAI.out.x.n w4 YI.out).mono ?_
    rintro e w5 ⟨rfl, rfl⟩
    go_wp2_with (first | (with_reducible refine stop_store (t := 28) ?_) |  (with_reducible refine stop_load (t := 70) ?_) | (with_reducible refine stop_store (t := 70) ?_) | (with_reducible refine stop_load (t := 72) ?_) | (with_reducible refine stop_store (t := 72) ?_) | (with_reducible refine stop_build (t := 70) ?_))
    (with_reducible refine ⟨?_⟩); (with_reducible refine at_any ?_ ?_); (focus go_simp); refine fun K0 hK => st_lbs (by kernel_rfl) _ _ g2 A.x (Pt.mk A.x.bs.ad A.x.bs.cap (A.x.bs.l.take 30)) rfl rfl rfl HG2.out (fun w5 hd ho => hK _ _ ?_)
    clear hK
    have hbt : (A.x.bs.l.take 30).length ≤ 30 := by rw [List.length_take]; omega
    obtain ⟨z, hz⟩ : ∃ z : Lt, z = { A.x with bs := Pt.mk A.x.bs.ad A.x.bs.cap (A.x.bs.l.take 30) } := ⟨_, rfl⟩
    rw [← hz] at hd
    have HZB : Hid (z.Ok ∧ z.bs.In w w.heap.size ∧ z.bs.l.length ≤ 30) := Lib.hid (by rw [hz]; exact ⟨⟨HAI.out.x.k.1, HAI.out.x.k.2, HAI.out.x.f.1, HAI.out.x.f.2, HAI.out.x.t.1, HAI.out.x.t.2⟩, HAI.out.x.b.take 30, hbt⟩)
    skip
    have hPO := P2.out.ex (ho.below w2.heap.size HGE.out w2 XQ.out)
    replace P := Lib.hid hPO
    replace HG2 := Lib.hid hd
    clear hd ho hz hbt hPO d3 YI
    go_wp2_with (first | (with_reducible refine stop_load (t := 70) ?_) | (with_reducible refine stop_store (t := 70) ?_) | (with_reducible refine stop_load (t := 72) ?_) | (with_reducible refine stop_store (t := 72) ?_) | (with_reducible refine stop_build (t := 70) ?_))
    (with_reducible refine ⟨?_⟩); (with_reducible refine at_any ?_ ?_); (focus go_simp); refine fun K0 hK => ld_lx _ g2 70 z rfl rfl HG2.out (hK _ _ ?_)
    clear hK
    have HPA := Lib.hid (put_any O (ctO ls) z w5 P.out.off HZB.out.1 (HZB.out.2.1.ext P.out.ext) (Nat.le_trans HZB.out.2.2 (by decide)))
    have hcp : canPut (ctO ls).length z.bs.l.length = decide (N < 64) := by unfold canPut; rw [ctO_len, ← HN.out, decide_eq_true (Nat.le_trans HZB.out.2.2 (show 30 ≤ 8192 by decide)), Bool.and_true]
    rw [hcp] at HPA
    clear hcp
    by_cases h64 : N < 64
    · have h64i : (N : Int) < 64 := by omega
      rw [decide_eq_true h64, if_pos rfl] at HPA
      go_wp2_with (first | (with_reducible refine stop_load (t := 70) ?_) | (with_reducible refine stop_store (t := 70) ?_) | (with_reducible refine stop_load (t := 72) ?_) | (with_reducible refine stop_store (t := 72) ?_) | (with_reducible refine stop_build (t := 70) ?_))
      refine HPA.out.mono ?_
      rintro e w6 ⟨rfl, hof, hft⟩
      replace HG2 := Lib.hid (And.intro HG2.out.1 (HG2.out.2.ft hft))
      replace P := Lib.hid (P.out.ft hft hof)
      clear hof hft HPA XW HBIN HGA
      go_wp2_with (first | (with_reducible refine stop_load (t := 70) ?_) | (with_reducible refine stop_store (t := 70) ?_) | (with_reducible refine stop_load (t := 72) ?_) | (with_reducible refine stop_store (t := 72) ?_) | (with_reducible refine stop_build (t := 70) ?_))
      obtain ⟨-, nlm, clm, xlm, RM⟩ := own_form P.out.mrow
      obtain ⟨-, nlh, clh, xlh, RH⟩ := own_form P.out.hrow
      rw [← HN.out] at clm RM clh RH
      have HRM := Lib.hid RM
      have HRH := Lib.hid RH
      have NLM := Lib.hid nlm
      have NLH := Lib.hid nlh
      clear RM RH nlm nlh
      go_wp2_with fail
      obtain ⟨T, hT⟩ : ∃ T : List (Rv w6.heap.size), T = [.emp 70, .is (.slice adm N capm), .own 70 4 (N) (mC ls), .is (z.V), .one 70 (z.C), .own 70 4 (N + 1) (mC ls ++ z.C), .emp 4, .is (.slice adh N caph), .own 4 1 (N) (hC ls), .one 4 ([.bool false]), .own 4 1 (N + 1) (hC ls ++ [.bool false]), .own 70 4 (N + 1) (mC ls ++ z.C), .own 4 1 (N + 1) (hC ls ++ [.bool false])] := ⟨_, rfl⟩
      have HTY : T.map Rv.ty = ([70, 0, 70, 0, 70, 70, 4, 0, 4, 4, 4, 70, 4] : List Nat) := by rw [hT]; rfl
      refine wp_region_gen (JR w6.heap.size w6 [70, 4] T ([70, 0, 70, 0, 70, 70, 4, 0, 4, 4, 4, 70, 4] : List Nat) ([some 2, none, some 5, none, some 5, none, some 8, none, some 10, some 10, none, none, none] : List (Option Nat)) ([(11, 5), (12, 10)] : List (Nat × Nat))) (by kernel_rfl) (by kernel_rfl) (by kernel_rfl) (fitB_spec (by kernel_rfl)) (fun listed f h => JR.start (Nat.le_refl _) listed f h) ?_ ?_
      · intro i o ho
        have hi : i < 13 := (Array.getElem?_eq_some_iff.1 ho).1
        have hi' : i = 0 ∨ i = 1 ∨ i = 2 ∨ i = 3 ∨ i = 4 ∨ i = 5 ∨ i = 6 ∨ i = 7 ∨ i = 8 ∨ i = 9 ∨ i = 10 ∨ i = 11 ∨ i = 12 := by omega
        clear hi
        rcases hi' with rfl | rfl | rfl | rfl | rfl | rfl | rfl | rfl | rfl | rfl | rfl | rfl | rfl
        all_goals (simp only [List.getElem?_toArray, List.getElem?_cons_zero, List.getElem?_cons_succ, Option.some.injEq] at ho; subst ho; intro listed f a w2 hJ hsz hls hun hdep hout hlat)
        · rw [if_pos (by rfl)]
          intro K hK
          have hord : ∀ x ∈ ([(11, 5), (12, 10)] : List (Nat × Nat)), x.1 = 0 → listed.getD x.2 false = true := (by intro x hx he; simp only [List.mem_cons, List.not_mem_nil, or_false] at hx; rcases hx with rfl | rfl; all_goals first | (exact absurd he (by decide)) | assumption)
          clear hsz hdep hout hlat
          go_simp
          exact hK _ _ (hJ.plain HTY (by rw [hls]; decide) (Ex.alloc _ _) (by rw [hT]; exact ⟨_, rfl, hJ.lo, Bk.new rfl _ _⟩) hord)
        · rw [if_pos (by rfl)]
          intro K hK
          have q6 := hlat 6 11 _ rfl rfl ⟨⟨1, .phase⟩, by simp, rfl, rfl⟩
          have hord : ∀ x ∈ ([(11, 5), (12, 10)] : List (Nat × Nat)), x.1 = 1 → listed.getD x.2 false = true := (by intro x hx he; simp only [List.mem_cons, List.not_mem_nil, or_false] at hx; rcases hx with rfl | rfl; all_goals first | (exact absurd he (by decide)) | assumption)
          refine wp_mv _ rfl (hK _ _ ?_)
          rw [show a.eval (.tmp 6) = .slice adm N capm from q6]
          exact hJ.plain HTY (by rw [hls]; decide) (Ex.refl _) (by rw [hT]; rfl) hord
        · rw [if_pos (by rfl)]
          intro K hK
          have dd68 := hdep ⟨0, .data⟩ (by simp) rfl
          have q68 := dd68.2 _ rfl _ rfl
          have h68 := hJ.vals 0 dd68.1 (fun c hc => by have hc : some 2 = some c := hc; cases hc; exact hun)
          rw [hT] at h68
          have h68 : Emp w6.heap.size w2 70 (f 0) := h68
          clear dd68
          have dd69 := hdep ⟨1, .data⟩ (by simp) rfl
          have q69 := dd69.2 _ rfl _ rfl
          have h69 := hJ.vals 1 dd69.1 (fun c hc => by have hc : none = some c := hc; cases hc)
          rw [hT] at h69
          rw [show f 1 = .slice adm N capm from h69] at q69
          clear h69
          clear dd69
          have hord : ∀ x ∈ ([(11, 5), (12, 10)] : List (Nat × Nat)), x.1 = 2 → listed.getD x.2 false = true := (by intro x hx he; simp only [List.mem_cons, List.not_mem_nil, or_false] at hx; rcases hx with rfl | rfl; all_goals first | (exact absurd he (by decide)) | assumption)
          exact wp_rd0 (.tmp 68) (.tmp 69) 78 70 zeroLt.V 4 48 rfl Try.underlying78 Try.infoLt rfl (by decide) w6.heap.size _ q68 h68 hJ.lo adm (N) (capm) _ q69 (HRM.out.ext hJ.ext.below) clm NLM.out (mC_one ls) (by omega) (by omega) (fun v' w' r1 r2 => hK _ _ (hJ.plain HTY (by rw [hls]; decide) r2 (by rw [hT]; exact r1) hord))
        · rw [if_pos (by rfl)]
          intro K hK
          have q18 := hout 18 (outB_spec (by kernel_rfl))
          have hord : ∀ x ∈ ([(11, 5), (12, 10)] : List (Nat × Nat)), x.1 = 3 → listed.getD x.2 false = true := (by intro x hx he; simp only [List.mem_cons, List.not_mem_nil, or_false] at hx; rcases hx with rfl | rfl; all_goals first | (exact absurd he (by decide)) | assumption)
          exact ld_lx (.tmp 18) g2 70 z rfl q18 (LX.ext HG2.out hJ.ext.below) (hK _ _ (hJ.plain HTY (by rw [hls]; decide) (Ex.refl _) (by rw [hT]; rfl) hord))
        · rw [if_pos (by rfl)]
          intro K hK
          have dd71 := hdep ⟨3, .data⟩ (by simp) rfl
          have q71 := dd71.2 _ rfl _ rfl
          have h71 := hJ.vals 3 dd71.1 (fun c hc => by have hc : none = some c := hc; cases hc)
          rw [hT] at h71
          rw [show f 3 = z.V from h71] at q71
          clear h71
          clear dd71
          have hord : ∀ x ∈ ([(11, 5), (12, 10)] : List (Nat × Nat)), x.1 = 4 → listed.getD x.2 false = true := (by intro x hx he; simp only [List.mem_cons, List.not_mem_nil, or_false] at hx; rcases hx with rfl | rfl; all_goals first | (exact absurd he (by decide)) | assumption)
          exact wp_bsl (.tmp 71) z rfl q71 (hK _ _ (hJ.plain HTY (by rw [hls]; decide) (Ex.alloc _ _) (by rw [hT]; exact ⟨_, rfl, Bk.new rfl _ _⟩) hord))
        · rw [if_pos (by rfl)]
          intro K hK
          have dd70 := hdep ⟨2, .data⟩ (by simp) rfl
          have q70 := dd70.2 _ rfl _ rfl
          have h70 := hJ.vals 2 dd70.1 (fun c hc => by have hc : some 5 = some c := hc; cases hc; exact hun)
          rw [hT] at h70
          have h70 : w2.ownsRow w6.heap.size 70 4 (f 2) (N) (mC ls) := h70
          obtain ⟨v70, e70⟩ : ∃ v, v = f 2 := ⟨_, rfl⟩
          rw [← e70] at h70 q70
          clear e70
          clear dd70
          have dd72 := hdep ⟨4, .data⟩ (by simp) rfl
          have q72 := dd72.2 _ rfl _ rfl
          have h72 := hJ.vals 4 dd72.1 (fun c hc => by have hc : some 5 = some c := hc; cases hc; exact hun)
          rw [hT] at h72
          have h72 : One w2 70 (z.C) (f 4) := h72
          clear dd72
          have hord : ∀ x ∈ ([(11, 5), (12, 10)] : List (Nat × Nat)), x.1 = 5 → listed.getD x.2 false = true := (by intro x hx he; simp only [List.mem_cons, List.not_mem_nil, or_false] at hx; rcases hx with rfl | rfl; all_goals first | (exact absurd he (by decide)) | assumption)
          obtain ⟨adx, ex, nx, rx⟩ := h72.rd
          rw [ex] at q72
          refine wp_rd (.tmp 70) (.tmp 72) 78 70 zeroLt.V 4 48 rfl Try.underlying78 Try.infoLt rfl (by decide) w6.heap.size _ _ _ q70 h70 hJ.lo adx 1 1 _ q72 rx (Nat.le_refl _) (fun h => absurd (nx h) (by decide)) (Lt.C_one z) (by omega) (by omega) (fun v' w' r1 r2 => hK _ _ (hJ.next HTY (by rw [hls]; decide) [70] (by decide) (by decide) r2 (by rw [hT]; exact r1) ?_ hord))
          intro j hj hin hl
          have hm := mem_tys (by decide) hin
          rw [show (List.range (List.length ([70, 0, 70, 0, 70, 70, 4, 0, 4, 4, 4, 70, 4] : List Nat))).filter (fun j => List.getD ([70, 0, 70, 0, 70, 70, 4, 0, 4, 4, 4, 70, 4] : List Nat) j 0 == 70) = [0, 2, 4, 5, 11] from by decide] at hm
          simp only [List.mem_cons, List.not_mem_nil, or_false] at hm
          rcases hm with rfl | rfl | rfl | rfl | rfl
          · exact ⟨2, rfl, Or.inr (hdep ⟨2, .data⟩ (by simp) rfl).1⟩
          · exact ⟨5, rfl, Or.inl rfl⟩
          · exact ⟨5, rfl, Or.inl rfl⟩
          · exact absurd rfl hj
          · exact absurd (hJ.ord (11, 5) (by simp) hl) (by rw [hun]; decide)
        · rw [if_pos (by rfl)]
          intro K hK
          have hord : ∀ x ∈ ([(11, 5), (12, 10)] : List (Nat × Nat)), x.1 = 6 → listed.getD x.2 false = true := (by intro x hx he; simp only [List.mem_cons, List.not_mem_nil, or_false] at hx; rcases hx with rfl | rfl; all_goals first | (exact absurd he (by decide)) | assumption)
          clear hsz hdep hout hlat
          go_simp
          exact hK _ _ (hJ.plain HTY (by rw [hls]; decide) (Ex.alloc _ _) (by rw [hT]; exact ⟨_, rfl, hJ.lo, Bk.new rfl _ _⟩) hord)
        · rw [if_pos (by rfl)]
          intro K hK
          have q7 := hlat 7 12 _ rfl rfl ⟨⟨7, .phase⟩, by simp, rfl, rfl⟩
          have hord : ∀ x ∈ ([(11, 5), (12, 10)] : List (Nat × Nat)), x.1 = 7 → listed.getD x.2 false = true := (by intro x hx he; simp only [List.mem_cons, List.not_mem_nil, or_false] at hx; rcases hx with rfl | rfl; all_goals first | (exact absurd he (by decide)) | assumption)
          refine wp_mv _ rfl (hK _ _ ?_)
          rw [show a.eval (.tmp 7) = .slice adh N caph from q7]
          exact hJ.plain HTY (by rw [hls]; decide) (Ex.refl _) (by rw [hT]; rfl) hord
        · rw [if_pos (by rfl)]
          intro K hK
          have dd74 := hdep ⟨6, .data⟩ (by simp) rfl
          have q74 := dd74.2 _ rfl _ rfl
          have h74 := hJ.vals 6 dd74.1 (fun c hc => by have hc : some 8 = some c := hc; cases hc; exact hun)
          rw [hT] at h74
          have h74 : Emp w6.heap.size w2 4 (f 6) := h74
          clear dd74
          have dd75 := hdep ⟨7, .data⟩ (by simp) rfl
          have q75 := dd75.2 _ rfl _ rfl
          have h75 := hJ.vals 7 dd75.1 (fun c hc => by have hc : none = some c := hc; cases hc)
          rw [hT] at h75
          rw [show f 7 = .slice adh N caph from h75] at q75
          clear h75
          clear dd75
          have hord : ∀ x ∈ ([(11, 5), (12, 10)] : List (Nat × Nat)), x.1 = 8 → listed.getD x.2 false = true := (by intro x hx he; simp only [List.mem_cons, List.not_mem_nil, or_false] at hx; rcases hx with rfl | rfl; all_goals first | (exact absurd he (by decide)) | assumption)
          exact wp_rd0 (.tmp 74) (.tmp 75) 85 4 (.bool false) 1 1 rfl Try.underlying85 Try.infoBool rfl (by decide) w6.heap.size _ q74 h74 hJ.lo adh (N) (caph) _ q75 (HRH.out.ext hJ.ext.below) clh NLH.out (hC_one ls) (by omega) (by omega) (fun v' w' r1 r2 => hK _ _ (hJ.plain HTY (by rw [hls]; decide) r2 (by rw [hT]; exact r1) hord))
        · rw [if_pos (by rfl)]
          intro K hK
          have hord : ∀ x ∈ ([(11, 5), (12, 10)] : List (Nat × Nat)), x.1 = 9 → listed.getD x.2 false = true := (by intro x hx he; simp only [List.mem_cons, List.not_mem_nil, or_false] at hx; rcases hx with rfl | rfl; all_goals first | (exact absurd he (by decide)) | assumption)
          clear hsz hdep hout hlat
          go_simp
          exact hK _ _ (hJ.plain HTY (by rw [hls]; decide) (Ex.alloc _ _) (by rw [hT]; exact ⟨_, rfl, Bk.new rfl _ _⟩) hord)
        · rw [if_pos (by rfl)]
          intro K hK
          have dd76 := hdep ⟨8, .data⟩ (by simp) rfl
          have q76 := dd76.2 _ rfl _ rfl
          have h76 := hJ.vals 8 dd76.1 (fun c hc => by have hc : some 10 = some c := hc; cases hc; exact hun)
          rw [hT] at h76
          have h76 : w2.ownsRow w6.heap.size 4 1 (f 8) (N) (hC ls) := h76
          obtain ⟨v76, e76⟩ : ∃ v, v = f 8 := ⟨_, rfl⟩
          rw [← e76] at h76 q76
          clear e76
          clear dd76
          have dd77 := hdep ⟨9, .data⟩ (by simp) rfl
          have q77 := dd77.2 _ rfl _ rfl
          have h77 := hJ.vals 9 dd77.1 (fun c hc => by have hc : some 10 = some c := hc; cases hc; exact hun)
          rw [hT] at h77
          have h77 : One w2 4 ([.bool false]) (f 9) := h77
          clear dd77
          have hord : ∀ x ∈ ([(11, 5), (12, 10)] : List (Nat × Nat)), x.1 = 10 → listed.getD x.2 false = true := (by intro x hx he; simp only [List.mem_cons, List.not_mem_nil, or_false] at hx; rcases hx with rfl | rfl; all_goals first | (exact absurd he (by decide)) | assumption)
          obtain ⟨adx, ex, nx, rx⟩ := h77.rd
          rw [ex] at q77
          refine wp_rd (.tmp 76) (.tmp 77) 85 4 (.bool false) 1 1 rfl Try.underlying85 Try.infoBool rfl (by decide) w6.heap.size _ _ _ q76 h76 hJ.lo adx 1 1 _ q77 rx (Nat.le_refl _) (fun h => absurd (nx h) (by decide)) (fun u hu => by rw [List.mem_singleton.1 hu]; rfl) (by omega) (by omega) (fun v' w' r1 r2 => hK _ _ (hJ.next HTY (by rw [hls]; decide) [4] (by decide) (by decide) r2 (by rw [hT]; exact r1) ?_ hord))
          intro j hj hin hl
          have hm := mem_tys (by decide) hin
          rw [show (List.range (List.length ([70, 0, 70, 0, 70, 70, 4, 0, 4, 4, 4, 70, 4] : List Nat))).filter (fun j => List.getD ([70, 0, 70, 0, 70, 70, 4, 0, 4, 4, 4, 70, 4] : List Nat) j 0 == 4) = [6, 8, 9, 10, 12] from by decide] at hm
          simp only [List.mem_cons, List.not_mem_nil, or_false] at hm
          rcases hm with rfl | rfl | rfl | rfl | rfl
          · exact ⟨8, rfl, Or.inr (hdep ⟨8, .data⟩ (by simp) rfl).1⟩
          · exact ⟨10, rfl, Or.inl rfl⟩
          · exact ⟨10, rfl, Or.inl rfl⟩
          · exact absurd rfl hj
          · exact absurd (hJ.ord (12, 10) (by simp) hl) (by rw [hun]; decide)
        · rw [if_pos (by rfl)]
          intro K hK
          have dd73 := hdep ⟨5, .data⟩ (by simp) rfl
          have q73 := dd73.2 _ rfl _ rfl
          have h73 := hJ.vals 5 dd73.1 (fun c hc => by have hc : none = some c := hc; cases hc)
          rw [hT] at h73
          have h73 : w2.ownsRow w6.heap.size 70 4 (f 5) (N + 1) (mC ls ++ z.C) := h73
          obtain ⟨v73, e73⟩ : ∃ v, v = f 5 := ⟨_, rfl⟩
          rw [← e73] at h73 q73
          clear e73
          clear dd73
          have hl5 := (hdep ⟨5, .data⟩ (by simp) rfl).1
          have hord : ∀ x ∈ ([(11, 5), (12, 10)] : List (Nat × Nat)), x.1 = 11 → listed.getD x.2 false = true := (by intro x hx he; simp only [List.mem_cons, List.not_mem_nil, or_false] at hx; rcases hx with rfl | rfl; all_goals first | (exact absurd he (by decide)) | assumption)
          rw [Array.getD_eq_getD_getElem?] at q73
          clear hsz hdep hout hlat
          go_simp
          exact hK _ _ (hJ.plain HTY (by rw [hls]; decide) (Ex.refl _) (by rw [hT]; exact h73) hord)
        · rw [if_pos (by rfl)]
          intro K hK
          have dd78 := hdep ⟨10, .data⟩ (by simp) rfl
          have q78 := dd78.2 _ rfl _ rfl
          have h78 := hJ.vals 10 dd78.1 (fun c hc => by have hc : none = some c := hc; cases hc)
          rw [hT] at h78
          have h78 : w2.ownsRow w6.heap.size 4 1 (f 10) (N + 1) (hC ls ++ [.bool false]) := h78
          obtain ⟨v78, e78⟩ : ∃ v, v = f 10 := ⟨_, rfl⟩
          rw [← e78] at h78 q78
          clear e78
          clear dd78
          have hl10 := (hdep ⟨10, .data⟩ (by simp) rfl).1
          have hord : ∀ x ∈ ([(11, 5), (12, 10)] : List (Nat × Nat)), x.1 = 12 → listed.getD x.2 false = true := (by intro x hx he; simp only [List.mem_cons, List.not_mem_nil, or_false] at hx; rcases hx with rfl | rfl; all_goals first | (exact absurd he (by decide)) | assumption)
          rw [Array.getD_eq_getD_getElem?] at q78
          clear hsz hdep hout hlat
          go_simp
          exact hK _ _ (hJ.plain HTY (by rw [hls]; decide) (Ex.refl _) (by rw [hT]; exact h78) hord)
      · intro listed f w2 hall hJ
        have o11 := hJ.vals 11 (hall 11 (by simp)) (fun c hc => by have hc : none = some c := hc; cases hc)
        rw [hT] at o11
        have o11 : w2.ownsRow w6.heap.size 70 4 (f 11) (N + 1) (mC ls ++ z.C) := o11
        have o12 := hJ.vals 12 (hall 12 (by simp)) (fun c hc => by have hc : none = some c := hc; cases hc)
        rw [hT] at o12
        have o12 : w2.ownsRow w6.heap.size 4 1 (f 12) (N + 1) (hC ls ++ [.bool false]) := o12
        have xw : Ex w6 w2 := hJ.ext.below
        simp only [putAll, Act.put, List.setIfInBounds_toArray, List.set_cons_zero, List.set_cons_succ, Nat.zero_add, Nat.reduceAdd]
        generalize f 11 = nm at o11 ⊢
        generalize f 12 = nh at o12 ⊢
        clear hJ hall hT HTY
        generalize f 0 = y0
        generalize f 1 = y1
        generalize f 2 = y2
        generalize f 3 = y3
        generalize f 4 = y4
        generalize f 5 = y5
        generalize f 6 = y6
        generalize f 7 = y7
        generalize f 8 = y8
        generalize f 9 = y9
        generalize f 10 = y10
        have hel : (ls ++ [(false, z)]).length = N + 1 := by rw [List.length_append, ← HN.out]; rfl
        replace P := Lib.hid (P.out.rows xw w6.heap.size P.out.ext.sz o11 o12 hel hel (mC_app ls (false, z)) (hC_app ls (false, z)) (fun x hx => by
                  rcases List.mem_append.1 hx with hx | hx
                  · exact Or.inl hx
                  · rw [List.mem_singleton.1 hx]; exact Or.inr HZB.out))
        rw [show ctO ls ++ [(false, z.ct)] = ctO (ls ++ [(false, z)]) from by unfold ctO; rw [List.map_append]; rfl] at P
        clear o11 o12 xw hel
        go_wp2_with (first | (with_reducible refine stop_load (t := 70) ?_) | (with_reducible refine stop_store (t := 70) ?_) | (with_reducible refine stop_load (t := 72) ?_) | (with_reducible refine stop_store (t := 72) ?_) | (with_reducible refine stop_build (t := 70) ?_))
        refine (same_st P.out).mono ?_
        rintro e wz ⟨rfl, xx⟩
        replace P := Lib.hid (P.out.ex xx)
        clear xx
        go_wp2_with (first | (with_reducible refine stop_load (t := 70) ?_) | (with_reducible refine stop_store (t := 70) ?_) | (with_reducible refine stop_load (t := 72) ?_) | (with_reducible refine stop_store (t := 72) ?_) | (with_reducible refine stop_build (t := 70) ?_))
        refine ⟨⟨_, _, k + 1, ls ++ [(false, z)], ⟨by omega, P⟩, rfl, rfl, rfl, rfl, rfl, rfl, rfl, rfl, rfl⟩, by simp [p21M, intOf]; omega⟩
    · have h64i : ¬ (N : Int) < 64 := by omega
      rw [decide_eq_false h64, if_neg (by simp)] at HPA
      go_wp2_with (first | (with_reducible refine stop_load (t := 70) ?_) | (with_reducible refine stop_store (t := 70) ?_) | (with_reducible refine stop_load (t := 72) ?_) | (with_reducible refine stop_store (t := 72) ?_) | (with_reducible refine stop_build (t := 70) ?_))
      refine HPA.out.mono ?_
      rintro e w6 ⟨rfl, hof, hft⟩
      replace P := Lib.hid (P.out.ft hft hof)
      clear hof hft HPA
      go_wp2_with (first | (with_reducible refine stop_load (t := 70) ?_) | (with_reducible refine stop_store (t := 70) ?_) | (with_reducible refine stop_load (t := 72) ?_) | (with_reducible refine stop_store (t := 72) ?_) | (with_reducible refine stop_build (t := 70) ?_))
      refine (same_st P.out).mono ?_
      rintro e wz ⟨rfl, xx⟩
      replace P := Lib.hid (P.out.ex xx)
      clear xx
      go_wp2_with (first | (with_reducible refine stop_load (t := 70) ?_) | (with_reducible refine stop_store (t := 70) ?_) | (with_reducible refine stop_load (t := 72) ?_) | (with_reducible refine stop_store (t := 72) ?_) | (with_reducible refine stop_build (t := 70) ?_))
      refine ⟨⟨_, _, k + 1, ls, ⟨by omega, P⟩, rfl, rfl, rfl, rfl, rfl, rfl, rfl, rfl, rfl⟩, by simp [p21M, intOf]; omega⟩
end Go.Proofs.Ytedljddjmojeeaa
