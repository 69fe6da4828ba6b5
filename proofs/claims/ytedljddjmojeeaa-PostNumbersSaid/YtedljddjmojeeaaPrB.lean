/- play of chapter 21 walked -/
import Derived.Test.YtedljddjmojeeaaPr
namespace Go.Proofs.Ytedljddjmojeeaa
open Go.RowKit
set_option maxHeartbeats 4000000 in
set_option maxRecDepth 100000 in
theorem p21_5 (w : World) (ad : Option Addr) (cap n : Nat) (most : Int) (l : List Ak) (O : Nat) (mv : Value) (hv : Value) (k : Nat) (ls : List (Bool × Lt)) (y : Nat → Value) (wr : World) (hk : k ≤ n) (P : Hid (Pst w wr O (ctO ls) ls mv hv)) (hL : n ≤ 9223372036854775807) (hin : Ap.In ad cap l w) (hnl : n = l.length) (hmo : (k : Int) < most) (A0 : Ak) (hA0 : l[k]? = some A0) (hlt : k < n) (hkind : A0.kind = 5) (Q0 : Exit → Act → World → Prop) (hexit : ∀ a' w'', p21I w ad cap n most l O a' w'' → Q0 (.exit 0) a' w'') :
    Code.wp Try.prog p21Body (Exit.then (fun a' w'' => p21I w ad cap n most l O a' w'' ∧ p21M n a' w'' < p21M n ⟨#[.slice ad n cap, .int .i64 most, y 2, y 3, .bool false, .pointer (some ⟨O, 0, none⟩), mv, hv, .int .i64 k, y 9, y 10, y 11, y 12, y 13, y 14, y 15, y 16, y 17, y 18, y 19, y 20, y 21, y 22, y 23, y 24, y 25, y 26, y 27, y 28, y 29, y 30, y 31, y 32, y 33, y 34, y 35, y 36, y 37, y 38, y 39, y 40, y 41, y 42, y 43, y 44, y 45, y 46, y 47, y 48, y 49, y 50, y 51, y 52, y 53, y 54, y 55, y 56, y 57, y 58, y 59, y 60, y 61, y 62, y 63, y 64, y 65, y 66, y 67, y 68, y 69, y 70, y 71, y 72, y 73, y 74, y 75, y 76, y 77, y 78, y 79, y 80, y 81, y 82, y 83, y 84, y 85, y 86, y 87, y 88, y 89, y 90, y 91, y 92, y 93, y 94, y 95, y 96, y 97, y 98, y 99, y 100, y 101, y 102, y 103, y 104, y 105, y 106, y 107, y 108, y 109, y 110, y 111, y 112, y 113, y 114, y 115, y 116, y 117, y 118, y 119, y 120, y 121, y 122, y 123, y 124, y 125, y 126, y 127, y 128, y 129, y 130, y 131, y 132, y 133, y 134, y 135, y 136, y 137, y 138, y 139, y 140, y 141, y 142, y 143, y 144, y 145, y 146, y 147, y 148, y 149, y 150, y 151, y 152, y 153, y 154, y 155, y 156, y 157, y 158, y 159, y 160, y 161, y 162, y 163, y 164, y 165, y 166, y 167, y 168, y 169, y 170, y 171, y 172, y 173, y 174, y 175, y 176, y 177, y 178, y 179, y 180, y 181, y 182, y 183, y 184, y 185, y 186, y 187, y 188, y 189, y 190, y 191, y 192, y 193, y 194, y 195, y 196, y 197, y 198, y 199, y 200, y 201, y 202, y 203, y 204, y 205, y 206, y 207, y 208, y 209, y 210, y 211, y 212, y 213], []⟩ wr) Q0) ⟨#[.slice ad n cap, .int .i64 most, y 2, y 3, .bool false, .pointer (some ⟨O, 0, none⟩), mv, hv, .int .i64 k, y 9, y 10, y 11, y 12, y 13, y 14, y 15, y 16, y 17, y 18, y 19, y 20, y 21, y 22, y 23, y 24, y 25, y 26, y 27, y 28, y 29, y 30, y 31, y 32, y 33, y 34, y 35, y 36, y 37, y 38, y 39, y 40, y 41, y 42, y 43, y 44, y 45, y 46, y 47, y 48, y 49, y 50, y 51, y 52, y 53, y 54, y 55, y 56, y 57, y 58, y 59, y 60, y 61, y 62, y 63, y 64, y 65, y 66, y 67, y 68, y 69, y 70, y 71, y 72, y 73, y 74, y 75, y 76, y 77, y 78, y 79, y 80, y 81, y 82, y 83, y 84, y 85, y 86, y 87, y 88, y 89, y 90, y 91, y 92, y 93, y 94, y 95, y 96, y 97, y 98, y 99, y 100, y 101, y 102, y 103, y 104, y 105, y 106, y 107, y 108, y 109, y 110, y 111, y 112, y 113, y 114, y 115, y 116, y 117, y 118, y 119, y 120, y 121, y 122, y 123, y 124, y 125, y 126, y 127, y 128, y 129, y 130, y 131, y 132, y 133, y 134, y 135, y 136, y 137, y 138, y 139, y 140, y 141, y 142, y 143, y 144, y 145, y 146, y 147, y 148, y 149, y 150, y 151, y 152, y 153, y 154, y 155, y 156, y 157, y 158, y 159, y 160, y 161, y 162, y 163, y 164, y 165, y 166, y 167, y 168, y 169, y 170, y 171, y 172, y 173, y 174, y 175, y 176, y 177, y 178, y 179, y 180, y 181, y 182, y 183, y 184, y 185, y 186, y 187, y 188, y 189, y 190, y 191, y 192, y 193, y 194, y 195, y 196, y 197, y 198, y 199, y 200, y 201, y 202, y 203, y 204, y 205, y 206, y 207, y 208, y 209, y 210, y 211, y 212, y 213], []⟩ wr := by
  conv => arg 2; whnf
  have HIN := Lib.hid hin
  have HNL := Lib.hid hnl
  clear hin hnl
  obtain ⟨A, hA⟩ : ∃ A, l[k]? = some A := ⟨_, List.getElem?_eq_getElem (by rw [← HNL.out]; exact hlt)⟩
  obtain ⟨aa, oa, rfl, haa, hra⟩ := HIN.out.read (by rw [← HNL.out]; omega)
  have HAR := Lib.hid (hra k A hA)
  have HAI := Lib.hid (HIN.out.ins k A hA)
  have HAA := Lib.hid haa
  clear hra haa
  obtain rfl : A = A0 := by rw [hA0] at hA; exact (Option.some.inj hA).symm
  clear hA hA0
  obtain ⟨adm, capm, rfl, _⟩ := P.out.lp
  have hn64 := P.out.off.len
  rw [ctO_len] at hn64
  obtain ⟨adh, caph, rfl, hbin⟩ := P.out.bp (by omega)
  have HBIN := Lib.hid hbin
  clear hbin
  obtain ⟨N, hN⟩ : ∃ N, N = ls.length := ⟨_, rfl⟩
  rw [← hN] at P hn64 HBIN ⊢
  have HN := Lib.hid hN
  clear hN
  have q0 : (0 : Int) ≤ (k : Int) := by omega
  have q1 : (k : Int) < (n : Int) := by omega
  go_wp2_with (first | (with_reducible refine stop_load (t := 70) ?_) | (with_reducible refine stop_store (t := 70) ?_) | (with_reducible refine stop_load (t := 72) ?_) | (with_reducible refine stop_store (t := 72) ?_) | (with_reducible refine stop_build (t := 70) ?_))
  (with_reducible refine ⟨?_⟩); (with_reducible refine at_any ?_ ?_); (focus go_simp); refine fun K0 hK => ld_ar _ aa (oa + k * 6) A rfl rfl (fun j u hu => (Below.cell (p := ⟨aa, oa + k * 6 + j, none⟩) P.out.ext HAA.out).trans (HAR.out j u hu)) (hK _ _ ?_)
  clear hK
  go_wp2_with (first | (with_reducible refine stop_load (t := 70) ?_) | (with_reducible refine stop_store (t := 70) ?_) | (with_reducible refine stop_load (t := 72) ?_) | (with_reducible refine stop_store (t := 72) ?_) | (with_reducible refine stop_build (t := 70) ?_))
  (with_reducible refine ⟨?_⟩); (with_reducible refine at_any ?_ ?_); (focus go_simp); refine fun K0 hK => st_ak _ _ wr.heap.size A rfl rfl rfl (Bk.new rfl _ _) (by rfl) (fun w2 hd9 ho => hK _ _ ?_)
  clear hK
  have xx : Ex wr w2 := ho.below wr.heap.size (Nat.le_refl _) wr (Ex.alloc wr _)
  have PX := P
  replace P := Lib.hid (P.out.ex xx)
  obtain ⟨g, hg⟩ : ∃ g, g = wr.heap.size := ⟨_, rfl⟩
  rw [← hg] at hd9 ⊢
  have HGA := Lib.hid hd9
  have XW := Lib.hid xx
  have c0 : w2.cell? ⟨g, 0, none⟩ = some (.int .i64 A.kind) := hd9.cell 0
  have c1 : w2.cell? ⟨g, 1, none⟩ = some (.int .i64 A.i) := hd9.cell 1
  clear xx ho hd9 hg PX
  go_wp2_with (first | (with_reducible refine stop_load (t := 70) ?_) | (with_reducible refine stop_store (t := 70) ?_) | (with_reducible refine stop_load (t := 72) ?_) | (with_reducible refine stop_store (t := 72) ?_) | (with_reducible refine stop_build (t := 70) ?_))
  refine (within_any A.i (-1) (N : Int) HAI.out.i (by omega) (by omega) (by omega) w2).mono ?_
  rintro e w3 ⟨j, rfl, hj0, hj1, rfl⟩
  have hj3 : j = -1 ∨ j = (N : Int) ∨ ∃ p : Nat, j = (p : Int) ∧ p < N := by
    rcases Int.lt_or_le j 0 with h | h
    · exact Or.inl (by omega)
    · obtain ⟨p, rfl⟩ := Int.eq_ofNat_of_zero_le h
      rcases Nat.lt_or_ge p N with h2 | h2
      · exact Or.inr (Or.inr ⟨p, rfl, h2⟩)
      · exact Or.inr (Or.inl (by omega))
  clear hj0 hj1
  rw [hkind] at c0
  clear hkind
  rcases hj3 with rfl | rfl | ⟨p, rfl, hp⟩
  · have r0 : ¬ (0 : Int) ≤ (-1 : Int) := by decide
    go_wp2_with (first | (with_reducible refine stop_load (t := 70) ?_) | (with_reducible refine stop_store (t := 70) ?_) | (with_reducible refine stop_load (t := 72) ?_) | (with_reducible refine stop_store (t := 72) ?_) | (with_reducible refine stop_build (t := 70) ?_))
    refine (take_none O (ctO ls) (-1) w2 P.out.off (Or.inl (by decide))).mono ?_
    rintro e w4 ⟨x, rfl, hxc, hxn, hof, hft⟩
    replace P := Lib.hid (P.out.ft hft hof)
    clear hof hft
    have HXZ := Lib.hid hxc
    have HXN := Lib.hid hxn
    clear hxc hxn
    go_wp2_with (first | (with_reducible refine stop_load (t := 70) ?_) | (with_reducible refine stop_store (t := 70) ?_) | (with_reducible refine stop_load (t := 72) ?_) | (with_reducible refine stop_store (t := 72) ?_) | (with_reducible refine stop_build (t := 70) ?_))
    (with_reducible refine ⟨?_⟩); (with_reducible refine at_any ?_ ?_); (focus go_simp); refine fun K0 hK => st_lx _ _ w4.heap.size 70 Try.sizeLt x rfl rfl rfl HXN.out.1 (Bk.new rfl _ _) (by rfl) (fun w5 hd9 ho => hK _ _ ?_)
    clear hK
    have xx : Ex w4 w5 := ho.below w4.heap.size (Nat.le_refl _) w4 (Ex.alloc w4 _)
    replace P := Lib.hid (P.out.ex xx)
    replace HXN := Lib.hid (HXN.out.ext xx)
    obtain ⟨g, hg⟩ : ∃ g, g = w4.heap.size := ⟨_, rfl⟩
    rw [← hg] at hd9 ⊢
    have HG := Lib.hid hd9
    clear xx ho hd9 hg c0 c1
    go_wp2_with fail
    obtain ⟨T, hT⟩ : ∃ T : List (Rv w5.heap.size), T = [.is (.bool false), .is (.bool false), .is (.bool false), .is (.bool false), .is (.bool false), .is (.bool false), .any, .any, .any, .any, .any, .any, .any, .is (.bool false), .is (.bool false), .is (.bool false), .is (.bool false), .is (.bool true), .is (.bool true), .is (x.V), .is (zeroLt.V), .is (.bool true), .is (.bool false), .is (.bool false), .is (.bool false)] := ⟨_, rfl⟩
    have HTY : T.map Rv.ty = ([0, 0, 0, 0, 0, 0, 0, 0, 0, 0, 0, 0, 0, 0, 0, 0, 0, 0, 0, 0, 0, 0, 0, 0, 0] : List Nat) := by rw [hT]; rfl
    refine wp_region_gen (JR w5.heap.size w5 [0] T ([0, 0, 0, 0, 0, 0, 0, 0, 0, 0, 0, 0, 0, 0, 0, 0, 0, 0, 0, 0, 0, 0, 0, 0, 0] : List Nat) ([none, none, none, none, none, none, none, none, none, none, none, none, none, none, none, none, none, none, none, none, none, none, none, none, none] : List (Option Nat)) ([] : List (Nat × Nat))) (by kernel_rfl) (by kernel_rfl) (by kernel_rfl) (fitB_spec (by kernel_rfl)) (fun listed f h => JR.start (Nat.le_refl _) listed f h) ?_ ?_
    · intro i o ho
      have hi : i < 25 := (Array.getElem?_eq_some_iff.1 ho).1
      have hi' : i = 0 ∨ i = 1 ∨ i = 2 ∨ i = 3 ∨ i = 4 ∨ i = 5 ∨ i = 6 ∨ i = 7 ∨ i = 8 ∨ i = 9 ∨ i = 10 ∨ i = 11 ∨ i = 12 ∨ i = 13 ∨ i = 14 ∨ i = 15 ∨ i = 16 ∨ i = 17 ∨ i = 18 ∨ i = 19 ∨ i = 20 ∨ i = 21 ∨ i = 22 ∨ i = 23 ∨ i = 24 := by omega
      clear hi
      rcases hi' with rfl | rfl | rfl | rfl | rfl | rfl | rfl | rfl | rfl | rfl | rfl | rfl | rfl | rfl | rfl | rfl | rfl | rfl | rfl | rfl | rfl | rfl | rfl | rfl | rfl
      all_goals (simp only [List.getElem?_toArray, List.getElem?_cons_zero, List.getElem?_cons_succ, Option.some.injEq] at ho; subst ho; intro listed f a w2 hJ hsz hls hun hdep hout hlat)
      · rw [if_pos (by rfl)]
        intro K hK
        have q13 := hout 13 (outB_spec (by kernel_rfl))
        have hord : ∀ x ∈ ([] : List (Nat × Nat)), x.1 = 0 → listed.getD x.2 false = true := by simp
        refine wp_mv _ rfl (hK _ _ ?_)
        rw [show a.eval (.tmp 13) = .bool false from q13]
        exact hJ.plain HTY (by rw [hls]; decide) (Ex.refl _) (by rw [hT]; rfl) hord
      · rw [if_pos (by rfl)]
        intro K hK
        have q14 := hout 14 (outB_spec (by kernel_rfl))
        have hord : ∀ x ∈ ([] : List (Nat × Nat)), x.1 = 1 → listed.getD x.2 false = true := by simp
        refine wp_mv _ rfl (hK _ _ ?_)
        rw [show a.eval (.tmp 14) = .bool false from q14]
        exact hJ.plain HTY (by rw [hls]; decide) (Ex.refl _) (by rw [hT]; rfl) hord
      · rw [if_pos (by rfl)]
        intro K hK
        have dd96 := hdep ⟨0, .data⟩ (by simp) rfl
        have q96 := dd96.2 _ rfl _ rfl
        have h96 := hJ.vals 0 dd96.1 (fun c hc => by have hc : none = some c := hc; cases hc)
        rw [hT] at h96
        rw [show f 0 = .bool false from h96] at q96
        clear h96
        clear dd96
        have dd97 := hdep ⟨1, .data⟩ (by simp) rfl
        have q97 := dd97.2 _ rfl _ rfl
        have h97 := hJ.vals 1 dd97.1 (fun c hc => by have hc : none = some c := hc; cases hc)
        rw [hT] at h97
        rw [show f 1 = .bool false from h97] at q97
        clear h97
        clear dd97
        have hord : ∀ x ∈ ([] : List (Nat × Nat)), x.1 = 2 → listed.getD x.2 false = true := by simp
        rw [Array.getD_eq_getD_getElem?] at q96
        rw [Array.getD_eq_getD_getElem?] at q97
        clear hsz hdep hout hlat
        go_simp
        exact hK _ _ (hJ.plain HTY (by rw [hls]; decide) (Ex.refl _) (by rw [hT]; first | rfl | exact congrArg (Value.int .i64) (by omega) | exact congrArg (Value.int .i64) (by rw [IntKind.wrap_i64]; omega)) hord)
      · rw [if_pos (by rfl)]
        intro K hK
        have dd98 := hdep ⟨2, .data⟩ (by simp) rfl
        have q98 := dd98.2 _ rfl _ rfl
        have h98 := hJ.vals 2 dd98.1 (fun c hc => by have hc : none = some c := hc; cases hc)
        rw [hT] at h98
        rw [show f 2 = .bool false from h98] at q98
        clear h98
        clear dd98
        have hord : ∀ x ∈ ([] : List (Nat × Nat)), x.1 = 3 → listed.getD x.2 false = true := by simp
        refine wp_mv _ rfl (hK _ _ ?_)
        rw [show a.eval (.tmp 98) = .bool false from q98]
        exact hJ.plain HTY (by rw [hls]; decide) (Ex.refl _) (by rw [hT]; rfl) hord
      · have ddg := hdep ⟨3, .guard⟩ (by simp) rfl
        have kg := ddg.2 _ rfl _ rfl
        have hg := hJ.vals 3 ddg.1 (fun c hc => by have hc : none = some c := hc; cases hc)
        rw [hT] at hg
        rw [show f 3 = .bool false from hg] at kg
        clear hg ddg
        rw [if_pos (wanted_of rfl rfl rfl kg)]
        clear kg
        intro K hK
        have q13 := hout 13 (outB_spec (by kernel_rfl))
        have hord : ∀ x ∈ ([] : List (Nat × Nat)), x.1 = 4 → listed.getD x.2 false = true := by simp
        refine wp_mv _ rfl (hK _ _ ?_)
        rw [show a.eval (.tmp 13) = .bool false from q13]
        exact hJ.plain HTY (by rw [hls]; decide) (Ex.refl _) (by rw [hT]; rfl) hord
      · have ddg := hdep ⟨3, .guard⟩ (by simp) rfl
        have kg := ddg.2 _ rfl _ rfl
        have hg := hJ.vals 3 ddg.1 (fun c hc => by have hc : none = some c := hc; cases hc)
        rw [hT] at hg
        rw [show f 3 = .bool false from hg] at kg
        clear hg ddg
        rw [if_pos (wanted_of rfl rfl rfl kg)]
        clear kg
        intro K hK
        have dd100 := hdep ⟨4, .data⟩ (by simp) rfl
        have q100 := dd100.2 _ rfl _ rfl
        have h100 := hJ.vals 4 dd100.1 (fun c hc => by have hc : none = some c := hc; cases hc)
        rw [hT] at h100
        rw [show f 4 = .bool false from h100] at q100
        clear h100
        clear dd100
        have hord : ∀ x ∈ ([] : List (Nat × Nat)), x.1 = 5 → listed.getD x.2 false = true := by simp
        refine wp_mv _ rfl (hK _ _ ?_)
        rw [show a.eval (.tmp 100) = .bool false from q100]
        exact hJ.plain HTY (by rw [hls]; decide) (Ex.refl _) (by rw [hT]; rfl) hord
      · have ddg := hdep ⟨5, .guard⟩ (by simp) rfl
        have kg := ddg.2 _ rfl _ rfl
        have hg := hJ.vals 5 ddg.1 (fun c hc => by have hc : none = some c := hc; cases hc)
        rw [hT] at hg
        rw [show f 5 = .bool false from hg] at kg
        clear hg ddg
        have hord : ∀ x ∈ ([] : List (Nat × Nat)), x.1 = 6 → listed.getD x.2 false = true := by simp
        rw [if_neg (not_wanted rfl rfl rfl kg (by decide))]
        exact hJ.plain HTY (by rw [hls]; decide) (Ex.refl _) (by rw [hT]; exact trivial) hord
      · have ddg := hdep ⟨5, .guard⟩ (by simp) rfl
        have kg := ddg.2 _ rfl _ rfl
        have hg := hJ.vals 5 ddg.1 (fun c hc => by have hc : none = some c := hc; cases hc)
        rw [hT] at hg
        rw [show f 5 = .bool false from hg] at kg
        clear hg ddg
        have hord : ∀ x ∈ ([] : List (Nat × Nat)), x.1 = 7 → listed.getD x.2 false = true := by simp
        rw [if_neg (not_wanted rfl rfl rfl kg (by decide))]
        exact hJ.plain HTY (by rw [hls]; decide) (Ex.refl _) (by rw [hT]; exact trivial) hord
      · have ddg := hdep ⟨5, .guard⟩ (by simp) rfl
        have kg := ddg.2 _ rfl _ rfl
        have hg := hJ.vals 5 ddg.1 (fun c hc => by have hc : none = some c := hc; cases hc)
        rw [hT] at hg
        rw [show f 5 = .bool false from hg] at kg
        clear hg ddg
        have hord : ∀ x ∈ ([] : List (Nat × Nat)), x.1 = 8 → listed.getD x.2 false = true := by simp
        rw [if_neg (not_wanted rfl rfl rfl kg (by decide))]
        exact hJ.plain HTY (by rw [hls]; decide) (Ex.refl _) (by rw [hT]; exact trivial) hord
      · have ddg := hdep ⟨5, .guard⟩ (by simp) rfl
        have kg := ddg.2 _ rfl _ rfl
        have hg := hJ.vals 5 ddg.1 (fun c hc => by have hc : none = some c := hc; cases hc)
        rw [hT] at hg
        rw [show f 5 = .bool false from hg] at kg
        clear hg ddg
        have hord : ∀ x ∈ ([] : List (Nat × Nat)), x.1 = 9 → listed.getD x.2 false = true := by simp
        rw [if_neg (not_wanted rfl rfl rfl kg (by decide))]
        exact hJ.plain HTY (by rw [hls]; decide) (Ex.refl _) (by rw [hT]; exact trivial) hord
      · have ddg := hdep ⟨5, .guard⟩ (by simp) rfl
        have kg := ddg.2 _ rfl _ rfl
        have hg := hJ.vals 5 ddg.1 (fun c hc => by have hc : none = some c := hc; cases hc)
        rw [hT] at hg
        rw [show f 5 = .bool false from hg] at kg
        clear hg ddg
        have hord : ∀ x ∈ ([] : List (Nat × Nat)), x.1 = 10 → listed.getD x.2 false = true := by simp
        rw [if_neg (not_wanted rfl rfl rfl kg (by decide))]
        exact hJ.plain HTY (by rw [hls]; decide) (Ex.refl _) (by rw [hT]; exact trivial) hord
      · have ddg := hdep ⟨5, .guard⟩ (by simp) rfl
        have kg := ddg.2 _ rfl _ rfl
        have hg := hJ.vals 5 ddg.1 (fun c hc => by have hc : none = some c := hc; cases hc)
        rw [hT] at hg
        rw [show f 5 = .bool false from hg] at kg
        clear hg ddg
        have hord : ∀ x ∈ ([] : List (Nat × Nat)), x.1 = 11 → listed.getD x.2 false = true := by simp
        rw [if_neg (not_wanted rfl rfl rfl kg (by decide))]
        exact hJ.plain HTY (by rw [hls]; decide) (Ex.refl _) (by rw [hT]; exact trivial) hord
      · have ddg := hdep ⟨5, .guard⟩ (by simp) rfl
        have kg := ddg.2 _ rfl _ rfl
        have hg := hJ.vals 5 ddg.1 (fun c hc => by have hc : none = some c := hc; cases hc)
        rw [hT] at hg
        rw [show f 5 = .bool false from hg] at kg
        clear hg ddg
        have hord : ∀ x ∈ ([] : List (Nat × Nat)), x.1 = 12 → listed.getD x.2 false = true := by simp
        rw [if_neg (not_wanted rfl rfl rfl kg (by decide))]
        exact hJ.plain HTY (by rw [hls]; decide) (Ex.refl _) (by rw [hT]; exact trivial) hord
      · have ddg := hdep ⟨3, .guard⟩ (by simp) rfl
        have kg := ddg.2 _ rfl _ rfl
        have hg := hJ.vals 3 ddg.1 (fun c hc => by have hc : none = some c := hc; cases hc)
        rw [hT] at hg
        rw [show f 3 = .bool false from hg] at kg
        clear hg ddg
        rw [if_pos (wanted_of rfl rfl rfl kg)]
        clear kg
        intro K hK
        have dd101 := hdep ⟨5, .data⟩ (by simp) rfl
        have q101 := dd101.2 _ rfl _ rfl
        have h101 := hJ.vals 5 dd101.1 (fun c hc => by have hc : none = some c := hc; cases hc)
        rw [hT] at h101
        rw [show f 5 = .bool false from h101] at q101
        clear h101
        clear dd101
        have dd108 := hdep ⟨12, .data⟩ (by simp) rfl
        have q108 := dd108.2 _ rfl _ rfl
        have hord : ∀ x ∈ ([] : List (Nat × Nat)), x.1 = 13 → listed.getD x.2 false = true := by simp
        rw [Array.getD_eq_getD_getElem?] at q101
        rw [Array.getD_eq_getD_getElem?] at q108
        clear hsz hdep hout hlat
        go_simp
        exact hK _ _ (hJ.plain HTY (by rw [hls]; decide) (Ex.refl _) (by rw [hT]; first | rfl | exact congrArg (Value.int .i64) (by omega) | exact congrArg (Value.int .i64) (by rw [IntKind.wrap_i64]; omega)) hord)
      · rw [if_pos (by rfl)]
        intro K hK
        have dd99 := hdep ⟨3, .data⟩ (by simp) rfl
        have q99 := dd99.2 _ rfl _ rfl
        have h99 := hJ.vals 3 dd99.1 (fun c hc => by have hc : none = some c := hc; cases hc)
        rw [hT] at h99
        rw [show f 3 = .bool false from h99] at q99
        clear h99
        clear dd99
        have dd109 := hdep ⟨13, .data⟩ (by simp) rfl
        have q109 := dd109.2 _ rfl _ rfl
        have h109 := hJ.vals 13 dd109.1 (fun c hc => by have hc : none = some c := hc; cases hc)
        rw [hT] at h109
        rw [show f 13 = .bool false from h109] at q109
        clear h109
        clear dd109
        have hord : ∀ x ∈ ([] : List (Nat × Nat)), x.1 = 14 → listed.getD x.2 false = true := by simp
        rw [Array.getD_eq_getD_getElem?] at q99
        rw [Array.getD_eq_getD_getElem?] at q109
        clear hsz hdep hout hlat
        go_simp
        exact hK _ _ (hJ.plain HTY (by rw [hls]; decide) (Ex.refl _) (by rw [hT]; first | rfl | exact congrArg (Value.int .i64) (by omega) | exact congrArg (Value.int .i64) (by rw [IntKind.wrap_i64]; omega)) hord)
      · rw [if_pos (by rfl)]
        intro K hK
        have dd110 := hdep ⟨14, .data⟩ (by simp) rfl
        have q110 := dd110.2 _ rfl _ rfl
        have h110 := hJ.vals 14 dd110.1 (fun c hc => by have hc : none = some c := hc; cases hc)
        rw [hT] at h110
        rw [show f 14 = .bool false from h110] at q110
        clear h110
        clear dd110
        have hord : ∀ x ∈ ([] : List (Nat × Nat)), x.1 = 15 → listed.getD x.2 false = true := by simp
        refine wp_mv _ rfl (hK _ _ ?_)
        rw [show a.eval (.tmp 110) = .bool false from q110]
        exact hJ.plain HTY (by rw [hls]; decide) (Ex.refl _) (by rw [hT]; rfl) hord
      · have ddg := hdep ⟨15, .guard⟩ (by simp) rfl
        have kg := ddg.2 _ rfl _ rfl
        have hg := hJ.vals 15 ddg.1 (fun c hc => by have hc : none = some c := hc; cases hc)
        rw [hT] at hg
        rw [show f 15 = .bool false from hg] at kg
        clear hg ddg
        rw [if_pos (wanted_of rfl rfl rfl kg)]
        clear kg
        intro K hK
        have q13 := hout 13 (outB_spec (by kernel_rfl))
        have hord : ∀ x ∈ ([] : List (Nat × Nat)), x.1 = 16 → listed.getD x.2 false = true := by simp
        refine wp_mv _ rfl (hK _ _ ?_)
        rw [show a.eval (.tmp 13) = .bool false from q13]
        exact hJ.plain HTY (by rw [hls]; decide) (Ex.refl _) (by rw [hT]; rfl) hord
      · have ddg := hdep ⟨15, .guard⟩ (by simp) rfl
        have kg := ddg.2 _ rfl _ rfl
        have hg := hJ.vals 15 ddg.1 (fun c hc => by have hc : none = some c := hc; cases hc)
        rw [hT] at hg
        rw [show f 15 = .bool false from hg] at kg
        clear hg ddg
        rw [if_pos (wanted_of rfl rfl rfl kg)]
        clear kg
        intro K hK
        have dd112 := hdep ⟨16, .data⟩ (by simp) rfl
        have q112 := dd112.2 _ rfl _ rfl
        have h112 := hJ.vals 16 dd112.1 (fun c hc => by have hc : none = some c := hc; cases hc)
        rw [hT] at h112
        rw [show f 16 = .bool false from h112] at q112
        clear h112
        clear dd112
        have hord : ∀ x ∈ ([] : List (Nat × Nat)), x.1 = 17 → listed.getD x.2 false = true := by simp
        rw [Array.getD_eq_getD_getElem?] at q112
        clear hsz hdep hout hlat
        go_simp
        exact hK _ _ (hJ.plain HTY (by rw [hls]; decide) (Ex.refl _) (by rw [hT]; first | rfl | exact congrArg (Value.int .i64) (by omega) | exact congrArg (Value.int .i64) (by rw [IntKind.wrap_i64]; omega)) hord)
      · have ddg := hdep ⟨15, .guard⟩ (by simp) rfl
        have kg := ddg.2 _ rfl _ rfl
        have hg := hJ.vals 15 ddg.1 (fun c hc => by have hc : none = some c := hc; cases hc)
        rw [hT] at hg
        rw [show f 15 = .bool false from hg] at kg
        clear hg ddg
        rw [if_pos (wanted_of rfl rfl rfl kg)]
        clear kg
        intro K hK
        have dd113 := hdep ⟨17, .data⟩ (by simp) rfl
        have q113 := dd113.2 _ rfl _ rfl
        have h113 := hJ.vals 17 dd113.1 (fun c hc => by have hc : none = some c := hc; cases hc)
        rw [hT] at h113
        rw [show f 17 = .bool true from h113] at q113
        clear h113
        clear dd113
        have hord : ∀ x ∈ ([] : List (Nat × Nat)), x.1 = 18 → listed.getD x.2 false = true := by simp
        refine wp_mv _ rfl (hK _ _ ?_)
        rw [show a.eval (.tmp 113) = .bool true from q113]
        exact hJ.plain HTY (by rw [hls]; decide) (Ex.refl _) (by rw [hT]; rfl) hord
      · have ddg := hdep ⟨18, .guard⟩ (by simp) rfl
        have kg := ddg.2 _ rfl _ rfl
        have hg := hJ.vals 18 ddg.1 (fun c hc => by have hc : none = some c := hc; cases hc)
        rw [hT] at hg
        rw [show f 18 = .bool true from hg] at kg
        clear hg ddg
        rw [if_pos (wanted_of rfl rfl rfl kg)]
        clear kg
        intro K hK
        have q12 := hout 12 (outB_spec (by kernel_rfl))
        have hord : ∀ x ∈ ([] : List (Nat × Nat)), x.1 = 19 → listed.getD x.2 false = true := by simp
        exact ld_lx (.tmp 12) g 70 x rfl q12 (HG.out.ext hJ.ext.below) (hK _ _ (hJ.plain HTY (by rw [hls]; decide) (Ex.refl _) (by rw [hT]; rfl) hord))
      · have ddg := hdep ⟨18, .guard⟩ (by simp) rfl
        have kg := ddg.2 _ rfl _ rfl
        have hg := hJ.vals 18 ddg.1 (fun c hc => by have hc : none = some c := hc; cases hc)
        rw [hT] at hg
        rw [show f 18 = .bool true from hg] at kg
        clear hg ddg
        rw [if_pos (wanted_of rfl rfl rfl kg)]
        clear kg
        intro K hK
        have hord : ∀ x ∈ ([] : List (Nat × Nat)), x.1 = 20 → listed.getD x.2 false = true := by simp
        exact wp_build _ _ rfl _ built_zl (hK _ _ (hJ.plain HTY (by rw [hls]; decide) (Ex.refl _) (by rw [hT]; rfl) hord))
      · have ddg := hdep ⟨18, .guard⟩ (by simp) rfl
        have kg := ddg.2 _ rfl _ rfl
        have hg := hJ.vals 18 ddg.1 (fun c hc => by have hc : none = some c := hc; cases hc)
        rw [hT] at hg
        rw [show f 18 = .bool true from hg] at kg
        clear hg ddg
        rw [if_pos (wanted_of rfl rfl rfl kg)]
        clear kg
        intro K hK
        have dd115 := hdep ⟨19, .data⟩ (by simp) rfl
        have q115 := dd115.2 _ rfl _ rfl
        have h115 := hJ.vals 19 dd115.1 (fun c hc => by have hc : none = some c := hc; cases hc)
        rw [hT] at h115
        rw [show f 19 = x.V from h115] at q115
        clear h115
        clear dd115
        have dd116 := hdep ⟨20, .data⟩ (by simp) rfl
        have q116 := dd116.2 _ rfl _ rfl
        have h116 := hJ.vals 20 dd116.1 (fun c hc => by have hc : none = some c := hc; cases hc)
        rw [hT] at h116
        rw [show f 20 = zeroLt.V from h116] at q116
        clear h116
        clear dd116
        have hord : ∀ x ∈ ([] : List (Nat × Nat)), x.1 = 21 → listed.getD x.2 false = true := by simp
        rw [Array.getD_eq_getD_getElem?] at q115
        rw [Array.getD_eq_getD_getElem?] at q116
        clear hsz hdep hout hlat
        go_simp
        refine (letter_same x zeroLt HXZ.out w2 HXN.out.1 zeroLt_ok (HXN.out.ext hJ.ext.below).2.1 (nilB_in _ _)).mono ?_
        rintro e w3 ⟨rfl, x3⟩
        exact hK _ _ (hJ.plain HTY (by rw [hls]; decide) x3 (by rw [hT]; rfl) hord)
      · have ddg := hdep ⟨18, .guard⟩ (by simp) rfl
        have kg := ddg.2 _ rfl _ rfl
        have hg := hJ.vals 18 ddg.1 (fun c hc => by have hc : none = some c := hc; cases hc)
        rw [hT] at hg
        rw [show f 18 = .bool true from hg] at kg
        clear hg ddg
        rw [if_pos (wanted_of rfl rfl rfl kg)]
        clear kg
        intro K hK
        have dd117 := hdep ⟨21, .data⟩ (by simp) rfl
        have q117 := dd117.2 _ rfl _ rfl
        have h117 := hJ.vals 21 dd117.1 (fun c hc => by have hc : none = some c := hc; cases hc)
        rw [hT] at h117
        rw [show f 21 = .bool true from h117] at q117
        clear h117
        clear dd117
        have hord : ∀ x ∈ ([] : List (Nat × Nat)), x.1 = 22 → listed.getD x.2 false = true := by simp
        rw [Array.getD_eq_getD_getElem?] at q117
        clear hsz hdep hout hlat
        go_simp
        exact hK _ _ (hJ.plain HTY (by rw [hls]; decide) (Ex.refl _) (by rw [hT]; first | rfl | exact congrArg (Value.int .i64) (by omega) | exact congrArg (Value.int .i64) (by rw [IntKind.wrap_i64]; omega)) hord)
      · have ddg := hdep ⟨15, .guard⟩ (by simp) rfl
        have kg := ddg.2 _ rfl _ rfl
        have hg := hJ.vals 15 ddg.1 (fun c hc => by have hc : none = some c := hc; cases hc)
        rw [hT] at hg
        rw [show f 15 = .bool false from hg] at kg
        clear hg ddg
        rw [if_pos (wanted_of rfl rfl rfl kg)]
        clear kg
        intro K hK
        have dd114 := hdep ⟨18, .data⟩ (by simp) rfl
        have q114 := dd114.2 _ rfl _ rfl
        have h114 := hJ.vals 18 dd114.1 (fun c hc => by have hc : none = some c := hc; cases hc)
        rw [hT] at h114
        rw [show f 18 = .bool true from h114] at q114
        clear h114
        clear dd114
        have dd118 := hdep ⟨22, .data⟩ (by simp) rfl
        have q118 := dd118.2 _ rfl _ rfl
        have h118 := hJ.vals 22 dd118.1 (fun c hc => by have hc : none = some c := hc; cases hc)
        rw [hT] at h118
        rw [show f 22 = .bool false from h118] at q118
        clear h118
        clear dd118
        have hord : ∀ x ∈ ([] : List (Nat × Nat)), x.1 = 23 → listed.getD x.2 false = true := by simp
        rw [Array.getD_eq_getD_getElem?] at q114
        rw [Array.getD_eq_getD_getElem?] at q118
        clear hsz hdep hout hlat
        go_simp
        exact hK _ _ (hJ.plain HTY (by rw [hls]; decide) (Ex.refl _) (by rw [hT]; first | rfl | exact congrArg (Value.int .i64) (by omega) | exact congrArg (Value.int .i64) (by rw [IntKind.wrap_i64]; omega)) hord)
      · rw [if_pos (by rfl)]
        intro K hK
        have dd111 := hdep ⟨15, .data⟩ (by simp) rfl
        have q111 := dd111.2 _ rfl _ rfl
        have h111 := hJ.vals 15 dd111.1 (fun c hc => by have hc : none = some c := hc; cases hc)
        rw [hT] at h111
        rw [show f 15 = .bool false from h111] at q111
        clear h111
        clear dd111
        have dd119 := hdep ⟨23, .data⟩ (by simp) rfl
        have q119 := dd119.2 _ rfl _ rfl
        have h119 := hJ.vals 23 dd119.1 (fun c hc => by have hc : none = some c := hc; cases hc)
        rw [hT] at h119
        rw [show f 23 = .bool false from h119] at q119
        clear h119
        clear dd119
        have hord : ∀ x ∈ ([] : List (Nat × Nat)), x.1 = 24 → listed.getD x.2 false = true := by simp
        rw [Array.getD_eq_getD_getElem?] at q111
        rw [Array.getD_eq_getD_getElem?] at q119
        clear hsz hdep hout hlat
        go_simp
        exact hK _ _ (hJ.plain HTY (by rw [hls]; decide) (Ex.refl _) (by rw [hT]; first | rfl | exact congrArg (Value.int .i64) (by omega) | exact congrArg (Value.int .i64) (by rw [IntKind.wrap_i64]; omega)) hord)
    · intro listed f w2 hall hJ
      have f24 : f 24 = .bool false := by
        have h := hJ.vals 24 (hall 24 (by simp)) (fun c hc => by have hc : none = some c := hc; cases hc)
        rw [hT] at h; exact h
      have xw : Ex w5 w2 := hJ.ext.below
      simp only [putAll, Act.put, List.setIfInBounds_toArray, List.set_cons_zero, List.set_cons_succ, Nat.zero_add, Nat.reduceAdd]
      rw [f24]
      clear f24
      clear hJ hall hT HTY
      generalize f 0 = y0
      generalize f 1 = y1
      generalize f 2 = y2
      generalize f 3 = y3
      generalize f 4 = y4
      generalize f 5 = y5
      generalize f 6 = y6
      generalize f 7 = y7
      generalize f 8 = y8
      generalize f 9 = y9
      generalize f 10 = y10
      generalize f 11 = y11
      generalize f 12 = y12
      generalize f 13 = y13
      generalize f 14 = y14
      generalize f 15 = y15
      generalize f 16 = y16
      generalize f 17 = y17
      generalize f 18 = y18
      generalize f 19 = y19
      generalize f 20 = y20
      generalize f 21 = y21
      generalize f 22 = y22
      generalize f 23 = y23
      replace P := Lib.hid (P.out.ex xw)
      clear xw
      go_wp2_with (first | (with_reducible refine stop_load (t := 70) ?_) | (with_reducible refine stop_store (t := 70) ?_) | (with_reducible refine stop_load (t := 72) ?_) | (with_reducible refine stop_store (t := 72) ?_) | (with_reducible refine stop_build (t := 70) ?_))
      refine (same_st P.out).mono ?_
      rintro e wz ⟨rfl, xx⟩
      replace P := Lib.hid (P.out.ex xx)
      clear xx
      go_wp2_with (first | (with_reducible refine stop_load (t := 70) ?_) | (with_reducible refine stop_store (t := 70) ?_) | (with_reducible refine stop_load (t := 72) ?_) | (with_reducible refine stop_store (t := 72) ?_) | (with_reducible refine stop_build (t := 70) ?_))
      refine ⟨⟨_, _, k + 1, ls, ⟨by omega, P⟩, rfl, rfl, rfl, rfl, rfl, rfl, rfl, rfl, rfl⟩, by simp [p21M, intOf]; omega⟩
  · have r0 : (0 : Int) ≤ (N : Int) := by omega
    have r1 : ¬ (N : Int) < (N : Int) := by omega
    go_wp2_with (first | (with_reducible refine stop_load (t := 70) ?_) | (with_reducible refine stop_store (t := 70) ?_) | (with_reducible refine stop_load (t := 72) ?_) | (with_reducible refine stop_store (t := 72) ?_) | (with_reducible refine stop_build (t := 70) ?_))
    refine (take_none O (ctO ls) (N : Int) w2 P.out.off (Or.inr (by rw [ctO_len, ← HN.out]; omega))).mono ?_
    rintro e w4 ⟨x, rfl, hxc, hxn, hof, hft⟩
    replace P := Lib.hid (P.out.ft hft hof)
    clear hof hft
    have HXZ := Lib.hid hxc
    have HXN := Lib.hid hxn
    clear hxc hxn
    go_wp2_with (first | (with_reducible refine stop_load (t := 70) ?_) | (with_reducible refine stop_store (t := 70) ?_) | (with_reducible refine stop_load (t := 72) ?_) | (with_reducible refine stop_store (t := 72) ?_) | (with_reducible refine stop_build (t := 70) ?_))
    (with_reducible refine ⟨?_⟩); (with_reducible refine at_any ?_ ?_); (focus go_simp); refine fun K0 hK => st_lx _ _ w4.heap.size 70 Try.sizeLt x rfl rfl rfl HXN.out.1 (Bk.new rfl _ _) (by rfl) (fun w5 hd9 ho => hK _ _ ?_)
    clear hK
    have xx : Ex w4 w5 := ho.below w4.heap.size (Nat.le_refl _) w4 (Ex.alloc w4 _)
    replace P := Lib.hid (P.out.ex xx)
    replace HXN := Lib.hid (HXN.out.ext xx)
    obtain ⟨g, hg⟩ : ∃ g, g = w4.heap.size := ⟨_, rfl⟩
    rw [← hg] at hd9 ⊢
    have HG := Lib.hid hd9
    clear xx ho hd9 hg c0 c1
    go_wp2_with fail
    obtain ⟨T, hT⟩ : ∃ T : List (Rv w5.heap.size), T = [.is (.bool false), .is (.bool false), .is (.bool false), .is (.bool false), .is (.bool false), .is (.bool false), .any, .any, .any, .any, .any, .any, .any, .is (.bool false), .is (.bool false), .is (.bool false), .is (.bool false), .is (.bool true), .is (.bool true), .is (x.V), .is (zeroLt.V), .is (.bool true), .is (.bool false), .is (.bool false), .is (.bool false)] := ⟨_, rfl⟩
    have HTY : T.map Rv.ty = ([0, 0, 0, 0, 0, 0, 0, 0, 0, 0, 0, 0, 0, 0, 0, 0, 0, 0, 0, 0, 0, 0, 0, 0, 0] : List Nat) := by rw [hT]; rfl
    refine wp_region_gen (JR w5.heap.size w5 [0] T ([0, 0, 0, 0, 0, 0, 0, 0, 0, 0, 0, 0, 0, 0, 0, 0, 0, 0, 0, 0, 0, 0, 0, 0, 0] : List Nat) ([none, none, none, none, none, none, none, none, none, none, none, none, none, none, none, none, none, none, none, none, none, none, none, none, none] : List (Option Nat)) ([] : List (Nat × Nat))) (by kernel_rfl) (by kernel_rfl) (by kernel_rfl) (fitB_spec (by kernel_rfl)) (fun listed f h => JR.start (Nat.le_refl _) listed f h) ?_ ?_
    · intro i o ho
      have hi : i < 25 := (Array.getElem?_eq_some_iff.1 ho).1
      have hi' : i = 0 ∨ i = 1 ∨ i = 2 ∨ i = 3 ∨ i = 4 ∨ i = 5 ∨ i = 6 ∨ i = 7 ∨ i = 8 ∨ i = 9 ∨ i = 10 ∨ i = 11 ∨ i = 12 ∨ i = 13 ∨ i = 14 ∨ i = 15 ∨ i = 16 ∨ i = 17 ∨ i = 18 ∨ i = 19 ∨ i = 20 ∨ i = 21 ∨ i = 22 ∨ i = 23 ∨ i = 24 := by omega
      clear hi
      rcases hi' with rfl | rfl | rfl | rfl | rfl | rfl | rfl | rfl | rfl | rfl | rfl | rfl | rfl | rfl | rfl | rfl | rfl | rfl | rfl | rfl | rfl | rfl | rfl | rfl | rfl
      all_goals (simp only [List.getElem?_toArray, List.getElem?_cons_zero, List.getElem?_cons_succ, Option.some.injEq] at ho; subst ho; intro listed f a w2 hJ hsz hls hun hdep hout hlat)
      · rw [if_pos (by rfl)]
        intro K hK
        have q13 := hout 13 (outB_spec (by kernel_rfl))
        have hord : ∀ x ∈ ([] : List (Nat × Nat)), x.1 = 0 → listed.getD x.2 false = true := by simp
        refine wp_mv _ rfl (hK _ _ ?_)
        rw [show a.eval (.tmp 13) = .bool false from q13]
        exact hJ.plain HTY (by rw [hls]; decide) (Ex.refl _) (by rw [hT]; rfl) hord
      · rw [if_pos (by rfl)]
        intro K hK
        have q14 := hout 14 (outB_spec (by kernel_rfl))
        have hord : ∀ x ∈ ([] : List (Nat × Nat)), x.1 = 1 → listed.getD x.2 false = true := by simp
        refine wp_mv _ rfl (hK _ _ ?_)
        rw [show a.eval (.tmp 14) = .bool false from q14]
        exact hJ.plain HTY (by rw [hls]; decide) (Ex.refl _) (by rw [hT]; rfl) hord
      · rw [if_pos (by rfl)]
        intro K hK
        have dd96 := hdep ⟨0, .data⟩ (by simp) rfl
        have q96 := dd96.2 _ rfl _ rfl
        have h96 := hJ.vals 0 dd96.1 (fun c hc => by have hc : none = some c := hc; cases hc)
        rw [hT] at h96
        rw [show f 0 = .bool false from h96] at q96
        clear h96
        clear dd96
        have dd97 := hdep ⟨1, .data⟩ (by simp) rfl
        have q97 := dd97.2 _ rfl _ rfl
        have h97 := hJ.vals 1 dd97.1 (fun c hc => by have hc : none = some c := hc; cases hc)
        rw [hT] at h97
        rw [show f 1 = .bool false from h97] at q97
        clear h97
        clear dd97
        have hord : ∀ x ∈ ([] : List (Nat × Nat)), x.1 = 2 → listed.getD x.2 false = true := by simp
        rw [Array.getD_eq_getD_getElem?] at q96
        rw [Array.getD_eq_getD_getElem?] at q97
        clear hsz hdep hout hlat
        go_simp
        exact hK _ _ (hJ.plain HTY (by rw [hls]; decide) (Ex.refl _) (by rw [hT]; first | rfl | exact congrArg (Value.int .i64) (by omega) | exact congrArg (Value.int .i64) (by rw [IntKind.wrap_i64]; omega)) hord)
      · rw [if_pos (by rfl)]
        intro K hK
        have dd98 := hdep ⟨2, .data⟩ (by simp) rfl
        have q98 := dd98.2 _ rfl _ rfl
        have h98 := hJ.vals 2 dd98.1 (fun c hc => by have hc : none = some c := hc; cases hc)
        rw [hT] at h98
        rw [show f 2 = .bool false from h98] at q98
        clear h98
        clear dd98
        have hord : ∀ x ∈ ([] : List (Nat × Nat)), x.1 = 3 → listed.getD x.2 false = true := by simp
        refine wp_mv _ rfl (hK _ _ ?_)
        rw [show a.eval (.tmp 98) = .bool false from q98]
        exact hJ.plain HTY (by rw [hls]; decide) (Ex.refl _) (by rw [hT]; rfl) hord
      · have ddg := hdep ⟨3, .guard⟩ (by simp) rfl
        have kg := ddg.2 _ rfl _ rfl
        have hg := hJ.vals 3 ddg.1 (fun c hc => by have hc : none = some c := hc; cases hc)
        rw [hT] at hg
        rw [show f 3 = .bool false from hg] at kg
        clear hg ddg
        rw [if_pos (wanted_of rfl rfl rfl kg)]
        clear kg
        intro K hK
        have q13 := hout 13 (outB_spec (by kernel_rfl))
        have hord : ∀ x ∈ ([] : List (Nat × Nat)), x.1 = 4 → listed.getD x.2 false = true := by simp
        refine wp_mv _ rfl (hK _ _ ?_)
        rw [show a.eval (.tmp 13) = .bool false from q13]
        exact hJ.plain HTY (by rw [hls]; decide) (Ex.refl _) (by rw [hT]; rfl) hord
      · have ddg := hdep ⟨3, .guard⟩ (by simp) rfl
        have kg := ddg.2 _ rfl _ rfl
        have hg := hJ.vals 3 ddg.1 (fun c hc => by have hc : none = some c := hc; cases hc)
        rw [hT] at hg
        rw [show f 3 = .bool false from hg] at kg
        clear hg ddg
        rw [if_pos (wanted_of rfl rfl rfl kg)]
        clear kg
        intro K hK
        have dd100 := hdep ⟨4, .data⟩ (by simp) rfl
        have q100 := dd100.2 _ rfl _ rfl
        have h100 := hJ.vals 4 dd100.1 (fun c hc => by have hc : none = some c := hc; cases hc)
        rw [hT] at h100
        rw [show f 4 = .bool false from h100] at q100
        clear h100
        clear dd100
        have hord : ∀ x ∈ ([] : List (Nat × Nat)), x.1 = 5 → listed.getD x.2 false = true := by simp
        refine wp_mv _ rfl (hK _ _ ?_)
        rw [show a.eval (.tmp 100) = .bool false from q100]
        exact hJ.plain HTY (by rw [hls]; decide) (Ex.refl _) (by rw [hT]; rfl) hord
      · have ddg := hdep ⟨5, .guard⟩ (by simp) rfl
        have kg := ddg.2 _ rfl _ rfl
        have hg := hJ.vals 5 ddg.1 (fun c hc => by have hc : none = some c := hc; cases hc)
        rw [hT] at hg
        rw [show f 5 = .bool false from hg] at kg
        clear hg ddg
        have hord : ∀ x ∈ ([] : List (Nat × Nat)), x.1 = 6 → listed.getD x.2 false = true := by simp
        rw [if_neg (not_wanted rfl rfl rfl kg (by decide))]
        exact hJ.plain HTY (by rw [hls]; decide) (Ex.refl _) (by rw [hT]; exact trivial) hord
      · have ddg := hdep ⟨5, .guard⟩ (by simp) rfl
        have kg := ddg.2 _ rfl _ rfl
        have hg := hJ.vals 5 ddg.1 (fun c hc => by have hc : none = some c := hc; cases hc)
        rw [hT] at hg
        rw [show f 5 = .bool false from hg] at kg
        clear hg ddg
        have hord : ∀ x ∈ ([] : List (Nat × Nat)), x.1 = 7 → listed.getD x.2 false = true := by simp
        rw [if_neg (not_wanted rfl rfl rfl kg (by decide))]
        exact hJ.plain HTY (by rw [hls]; decide) (Ex.refl _) (by rw [hT]; exact trivial) hord
      · have ddg := hdep ⟨5, .guard⟩ (by simp) rfl
        have kg := ddg.2 _ rfl _ rfl
        have hg := hJ.vals 5 ddg.1 (fun c hc => by have hc : none = some c := hc; cases hc)
        rw [hT] at hg
        rw [show f 5 = .bool false from hg] at kg
        clear hg ddg
        have hord : ∀ x ∈ ([] : List (Nat × Nat)), x.1 = 8 → listed.getD x.2 false = true := by simp
        rw [if_neg (not_wanted rfl rfl rfl kg (by decide))]
        exact hJ.plain HTY (by rw [hls]; decide) (Ex.refl _) (by rw [hT]; exact trivial) hord
      · have ddg := hdep ⟨5, .guard⟩ (by simp) rfl
        have kg := ddg.2 _ rfl _ rfl
        have hg := hJ.vals 5 ddg.1 (fun c hc => by have hc : none = some c := hc; cases hc)
        rw [hT] at hg
        rw [show f 5 = .bool false from hg] at kg
        clear hg ddg
        have hord : ∀ x ∈ ([] : List (Nat × Nat)), x.1 = 9 → listed.getD x.2 false = true := by simp
        rw [if_neg (not_wanted rfl rfl rfl kg (by decide))]
        exact hJ.plain HTY (by rw [hls]; decide) (Ex.refl _) (by rw [hT]; exact trivial) hord
      · have ddg := hdep ⟨5, .guard⟩ (by simp) rfl
        have kg := ddg.2 _ rfl _ rfl
        have hg := hJ.vals 5 ddg.1 (fun c hc => by have hc : none = some c := hc; cases hc)
        rw [hT] at hg
        rw [show f 5 = .bool false from hg] at kg
        clear hg ddg
        have hord : ∀ x ∈ ([] : List (Nat × Nat)), x.1 = 10 → listed.getD x.2 false = true := by simp
        rw [if_neg (not_wanted rfl rfl rfl kg (by decide))]
        exact hJ.plain HTY (by rw [hls]; decide) (Ex.refl _) (by rw [hT]; exact trivial) hord
      · have ddg := hdep ⟨5, .guard⟩ (by simp) rfl
        have kg := ddg.2 _ rfl _ rfl
        have hg := hJ.vals 5 ddg.1 (fun c hc => by have hc : none = some c := hc; cases hc)
        rw [hT] at hg
        rw [show f 5 = .bool false from hg] at kg
        clear hg ddg
        have hord : ∀ x ∈ ([] : List (Nat × Nat)), x.1 = 11 → listed.getD x.2 false = true := by simp
        rw [if_neg (not_wanted rfl rfl rfl kg (by decide))]
        exact hJ.plain HTY (by rw [hls]; decide) (Ex.refl _) (by rw [hT]; exact trivial) hord
      · have ddg := hdep ⟨5, .guard⟩ (by simp) rfl
        have kg := ddg.2 _ rfl _ rfl
        have hg := hJ.vals 5 ddg.1 (fun c hc => by have hc : none = some c := hc; cases hc)
        rw [hT] at hg
        rw [show f 5 = .bool false from hg] at kg
        clear hg ddg
        have hord : ∀ x ∈ ([] : List (Nat × Nat)), x.1 = 12 → listed.getD x.2 false = true := by simp
        rw [if_neg (not_wanted rfl rfl rfl kg (by decide))]
        exact hJ.plain HTY (by rw [hls]; decide) (Ex.refl _) (by rw [hT]; exact trivial) hord
      · have ddg := hdep ⟨3, .guard⟩ (by simp) rfl
        have kg := ddg.2 _ rfl _ rfl
        have hg := hJ.vals 3 ddg.1 (fun c hc => by have hc : none = some c := hc; cases hc)
        rw [hT] at hg
        rw [show f 3 = .bool false from hg] at kg
        clear hg ddg
        rw [if_pos (wanted_of rfl rfl rfl kg)]
        clear kg
        intro K hK
        have dd101 := hdep ⟨5, .data⟩ (by simp) rfl
        have q101 := dd101.2 _ rfl _ rfl
        have h101 := hJ.vals 5 dd101.1 (fun c hc => by have hc : none = some c := hc; cases hc)
        rw [hT] at h101
        rw [show f 5 = .bool false from h101] at q101
        clear h101
        clear dd101
        have dd108 := hdep ⟨12, .data⟩ (by simp) rfl
        have q108 := dd108.2 _ rfl _ rfl
        have hord : ∀ x ∈ ([] : List (Nat × Nat)), x.1 = 13 → listed.getD x.2 false = true := by simp
        rw [Array.getD_eq_getD_getElem?] at q101
        rw [Array.getD_eq_getD_getElem?] at q108
        clear hsz hdep hout hlat
        go_simp
        exact hK _ _ (hJ.plain HTY (by rw [hls]; decide) (Ex.refl _) (by rw [hT]; first | rfl | exact congrArg (Value.int .i64) (by omega) | exact congrArg (Value.int .i64) (by rw [IntKind.wrap_i64]; omega)) hord)
      · rw [if_pos (by rfl)]
        intro K hK
        have dd99 := hdep ⟨3, .data⟩ (by simp) rfl
        have q99 := dd99.2 _ rfl _ rfl
        have h99 := hJ.vals 3 dd99.1 (fun c hc => by have hc : none = some c := hc; cases hc)
        rw [hT] at h99
        rw [show f 3 = .bool false from h99] at q99
        clear h99
        clear dd99
        have dd109 := hdep ⟨13, .data⟩ (by simp) rfl
        have q109 := dd109.2 _ rfl _ rfl
        have h109 := hJ.vals 13 dd109.1 (fun c hc => by have hc : none = some c := hc; cases hc)
        rw [hT] at h109
        rw [show f 13 = .bool false from h109] at q109
        clear h109
        clear dd109
        have hord : ∀ x ∈ ([] : List (Nat × Nat)), x.1 = 14 → listed.getD x.2 false = true := by simp
        rw [Array.getD_eq_getD_getElem?] at q99
        rw [Array.getD_eq_getD_getElem?] at q109
        clear hsz hdep hout hlat
        go_simp
        exact hK _ _ (hJ.plain HTY (by rw [hls]; decide) (Ex.refl _) (by rw [hT]; first | rfl | exact congrArg (Value.int .i64) (by omega) | exact congrArg (Value.int .i64) (by rw [IntKind.wrap_i64]; omega)) hord)
      · rw [if_pos (by rfl)]
        intro K hK
        have dd110 := hdep ⟨14, .data⟩ (by simp) rfl
        have q110 := dd110.2 _ rfl _ rfl
        have h110 := hJ.vals 14 dd110.1 (fun c hc => by have hc : none = some c := hc; cases hc)
        rw [hT] at h110
        rw [show f 14 = .bool false from h110] at q110
        clear h110
        clear dd110
        have hord : ∀ x ∈ ([] : List (Nat × Nat)), x.1 = 15 → listed.getD x.2 false = true := by simp
        refine wp_mv _ rfl (hK _ _ ?_)
        rw [show a.eval (.tmp 110) = .bool false from q110]
        exact hJ.plain HTY (by rw [hls]; decide) (Ex.refl _) (by rw [hT]; rfl) hord
      · have ddg := hdep ⟨15, .guard⟩ (by simp) rfl
        have kg := ddg.2 _ rfl _ rfl
        have hg := hJ.vals 15 ddg.1 (fun c hc => by have hc : none = some c := hc; cases hc)
        rw [hT] at hg
        rw [show f 15 = .bool false from hg] at kg
        clear hg ddg
        rw [if_pos (wanted_of rfl rfl rfl kg)]
        clear kg
        intro K hK
        have q13 := hout 13 (outB_spec (by kernel_rfl))
        have hord : ∀ x ∈ ([] : List (Nat × Nat)), x.1 = 16 → listed.getD x.2 false = true := by simp
        refine wp_mv _ rfl (hK _ _ ?_)
        rw [show a.eval (.tmp 13) = .bool false from q13]
        exact hJ.plain HTY (by rw [hls]; decide) (Ex.refl _) (by rw [hT]; rfl) hord
      · have ddg := hdep ⟨15, .guard⟩ (by simp) rfl
        have kg := ddg.2 _ rfl _ rfl
        have hg := hJ.vals 15 ddg.1 (fun c hc => by have hc : none = some c := hc; cases hc)
        rw [hT] at hg
        rw [show f 15 = .bool false from hg] at kg
        clear hg ddg
        rw [if_pos (wanted_of rfl rfl rfl kg)]
        clear kg
        intro K hK
        have dd112 := hdep ⟨16, .data⟩ (by simp) rfl
        have q112 := dd112.2 _ rfl _ rfl
        have h112 := hJ.vals 16 dd112.1 (fun c hc => by have hc : none = some c := hc; cases hc)
        rw [hT] at h112
        rw [show f 16 = .bool false from h112] at q112
        clear h112
        clear dd112
        have hord : ∀ x ∈ ([] : List (Nat × Nat)), x.1 = 17 → listed.getD x.2 false = true := by simp
        rw [Array.getD_eq_getD_getElem?] at q112
        clear hsz hdep hout hlat
        go_simp
        exact hK _ _ (hJ.plain HTY (by rw [hls]; decide) (Ex.refl _) (by rw [hT]; first | rfl | exact congrArg (Value.int .i64) (by omega) | exact congrArg (Value.int .i64) (by rw [IntKind.wrap_i64]; omega)) hord)
      · have ddg := hdep ⟨15, .guard⟩ (by simp) rfl
        have kg := ddg.2 _ rfl _ rfl
        have hg := hJ.vals 15 ddg.1 (fun c hc => by have hc : none = some c := hc; cases hc)
        rw [hT] at hg
        rw [show f 15 = .bool false from hg] at kg
        clear hg ddg
        rw [if_pos (wanted_of rfl rfl rfl kg)]
        clear kg
        intro K hK
        have dd113 := hdep ⟨17, .data⟩ (by simp) rfl
        have q113 := dd113.2 _ rfl _ rfl
        have h113 := hJ.vals 17 dd113.1 (fun c hc => by have hc : none = some c := hc; cases hc)
        rw [hT] at h113
        rw [show f 17 = .bool true from h113] at q113
        clear h113
        clear dd113
        have hord : ∀ x ∈ ([] : List (Nat × Nat)), x.1 = 18 → listed.getD x.2 false = true := by simp
        refine wp_mv _ rfl (hK _ _ ?_)
        rw [show a.eval (.tmp 113) = .bool true from q113]
        exact hJ.plain HTY (by rw [hls]; decide) (Ex.refl _) (by rw [hT]; rfl) hord
      · have ddg := hdep ⟨18, .guard⟩ (by simp) rfl
        have kg := ddg.2 _ rfl _ rfl
        have hg := hJ.vals 18 ddg.1 (fun c hc => by have hc : none = some c := hc; cases hc)
        rw [hT] at hg
        rw [show f 18 = .bool true from hg] at kg
        clear hg ddg
        rw [if_pos (wanted_of rfl rfl rfl kg)]
        clear kg
        intro K hK
        have q12 := hout 12 (outB_spec (by kernel_rfl))
        have hord : ∀ x ∈ ([] : List (Nat × Nat)), x.1 = 19 → listed.getD x.2 false = true := by simp
        exact ld_lx (.tmp 12) g 70 x rfl q12 (HG.out.ext hJ.ext.below) (hK _ _ (hJ.plain HTY (by rw [hls]; decide) (Ex.refl _) (by rw [hT]; rfl) hord))
      · have ddg := hdep ⟨18, .guard⟩ (by simp) rfl
        have kg := ddg.2 _ rfl _ rfl
        have hg := hJ.vals 18 ddg.1 (fun c hc => by have hc : none = some c := hc; cases hc)
        rw [hT] at hg
        rw [show f 18 = .bool true from hg] at kg
        clear hg ddg
        rw [if_pos (wanted_of rfl rfl rfl kg)]
        clear kg
        intro K hK
        have hord : ∀ x ∈ ([] : List (Nat × Nat)), x.1 = 20 → listed.getD x.2 false = true := by simp
        exact wp_build _ _ rfl _ built_zl (hK _ _ (hJ.plain HTY (by rw [hls]; decide) (Ex.refl _) (by rw [hT]; rfl) hord))
      · have ddg := hdep ⟨18, .guard⟩ (by simp) rfl
        have kg := ddg.2 _ rfl _ rfl
        have hg := hJ.vals 18 ddg.1 (fun c hc => by have hc : none = some c := hc; cases hc)
        rw [hT] at hg
        rw [show f 18 = .bool true from hg] at kg
        clear hg ddg
        rw [if_pos (wanted_of rfl rfl rfl kg)]
        clear kg
        intro K hK
        have dd115 := hdep ⟨19, .data⟩ (by simp) rfl
        have q115 := dd115.2 _ rfl _ rfl
        have h115 := hJ.vals 19 dd115.1 (fun c hc => by have hc : none = some c := hc; cases hc)
        rw [hT] at h115
        rw [show f 19 = x.V from h115] at q115
        clear h115
        clear dd115
        have dd116 := hdep ⟨20, .data⟩ (by simp) rfl
        have q116 := dd116.2 _ rfl _ rfl
        have h116 := hJ.vals 20 dd116.1 (fun c hc => by have hc : none = some c := hc; cases hc)
        rw [hT] at h116
        rw [show f 20 = zeroLt.V from h116] at q116
        clear h116
        clear dd116
        have hord : ∀ x ∈ ([] : List (Nat × Nat)), x.1 = 21 → listed.getD x.2 false = true := by simp
        rw [Array.getD_eq_getD_getElem?] at q115
        rw [Array.getD_eq_getD_getElem?] at q116
        clear hsz hdep hout hlat
        go_simp
        refine (letter_same x zeroLt HXZ.out w2 HXN.out.1 zeroLt_ok (HXN.out.ext hJ.ext.below).2.1 (nilB_in _ _)).mono ?_
        rintro e w3 ⟨rfl, x3⟩
        exact hK _ _ (hJ.plain HTY (by rw [hls]; decide) x3 (by rw [hT]; rfl) hord)
      · have ddg := hdep ⟨18, .guard⟩ (by simp) rfl
        have kg := ddg.2 _ rfl _ rfl
        have hg := hJ.vals 18 ddg.1 (fun c hc => by have hc : none = some c := hc; cases hc)
        rw [hT] at hg
        rw [show f 18 = .bool true from hg] at kg
        clear hg ddg
        rw [if_pos (wanted_of rfl rfl rfl kg)]
        clear kg
        intro K hK
        have dd117 := hdep ⟨21, .data⟩ (by simp) rfl
        have q117 := dd117.2 _ rfl _ rfl
        have h117 := hJ.vals 21 dd117.1 (fun c hc => by have hc : none = some c := hc; cases hc)
        rw [hT] at h117
        rw [show f 21 = .bool true from h117] at q117
        clear h117
        clear dd117
        have hord : ∀ x ∈ ([] : List (Nat × Nat)), x.1 = 22 → listed.getD x.2 false = true := by simp
        rw [Array.getD_eq_getD_getElem?] at q117
        clear hsz hdep hout hlat
        go_simp
        exact hK _ _ (hJ.plain HTY (by rw [hls]; decide) (Ex.refl _) (by rw [hT]; first | rfl | exact congrArg (Value.int .i64) (by omega) | exact congrArg (Value.int .i64) (by rw [IntKind.wrap_i64]; omega)) hord)
      · have ddg := hdep ⟨15, .guard⟩ (by simp) rfl
        have kg := ddg.2 _ rfl _ rfl
        have hg := hJ.vals 15 ddg.1 (fun c hc => by have hc : none = some c := hc; cases hc)
        rw [hT] at hg
        rw [show f 15 = .bool false from hg] at kg
        clear hg ddg
        rw [if_pos (wanted_of rfl rfl rfl kg)]
        clear kg
        intro K hK
        have dd114 := hdep ⟨18, .data⟩ (by simp) rfl
        have q114 := dd114.2 _ rfl _ rfl
        have h114 := hJ.vals 18 dd114.1 (fun c hc => by have hc : none = some c := hc; cases hc)
        rw [hT] at h114
        rw [show f 18 = .bool true from h114] at q114
        clear h114
        clear dd114
        have dd118 := hdep ⟨22, .data⟩ (by simp) rfl
        have q118 := dd118.2 _ rfl _ rfl
        have h118 := hJ.vals 22 dd118.1 (fun c hc => by have hc : none = some c := hc; cases hc)
        rw [hT] at h118
        rw [show f 22 = .bool false from h118] at q118
        clear h118
        clear dd118
        have hord : ∀ x ∈ ([] : List (Nat × Nat)), x.1 = 23 → listed.getD x.2 false = true := by simp
        rw [Array.getD_eq_getD_getElem?] at q114
        rw [Array.getD_eq_getD_getElem?] at q118
        clear hsz hdep hout hlat
        go_simp
        exact hK _ _ (hJ.plain HTY (by rw [hls]; decide) (Ex.refl _) (by rw [hT]; first | rfl | exact congrArg (Value.int .i64) (by omega) | exact congrArg (Value.int .i64) (by rw [IntKind.wrap_i64]; omega)) hord)
      · rw [if_pos (by rfl)]
        intro K hK
        have dd111 := hdep ⟨15, .data⟩ (by simp) rfl
        have q111 := dd111.2 _ rfl _ rfl
        have h111 := hJ.vals 15 dd111.1 (fun c hc => by have hc : none = some c := hc; cases hc)
        rw [hT] at h111
        rw [show f 15 = .bool false from h111] at q111
        clear h111
        clear dd111
        have dd119 := hdep ⟨23, .data⟩ (by simp) rfl
        have q119 := dd119.2 _ rfl _ rfl
        have h119 := hJ.vals 23 dd119.1 (fun c hc => by have hc : none = some c := hc; cases hc)
        rw [hT] at h119
        rw [show f 23 = .bool false from h119] at q119
        clear h119
        clear dd119
        have hord : ∀ x ∈ ([] : List (Nat × Nat)), x.1 = 24 → listed.getD x.2 false = true := by simp
        rw [Array.getD_eq_getD_getElem?] at q111
        rw [Array.getD_eq_getD_getElem?] at q119
        clear hsz hdep hout hlat
        go_simp
        exact hK _ _ (hJ.plain HTY (by rw [hls]; decide) (Ex.refl _) (by rw [hT]; first | rfl | exact congrArg (Value.int .i64) (by omega) | exact congrArg (Value.int .i64) (by rw [IntKind.wrap_i64]; omega)) hord)
    · intro listed f w2 hall hJ
      have f24 : f 24 = .bool false := by
        have h := hJ.vals 24 (hall 24 (by simp)) (fun c hc => by have hc : none = some c := hc; cases hc)
        rw [hT] at h; exact h
      have xw : Ex w5 w2 := hJ.ext.below
      simp only [putAll, Act.put, List.setIfInBounds_toArray, List.set_cons_zero, List.set_cons_succ, Nat.zero_add, Nat.reduceAdd]
      rw [f24]
      clear f24
      clear hJ hall hT HTY
      generalize f 0 = y0
      generalize f 1 = y1
      generalize f 2 = y2
      generalize f 3 = y3
      generalize f 4 = y4
      generalize f 5 = y5
      generalize f 6 = y6
      generalize f 7 = y7
      generalize f 8 = y8
      generalize f 9 = y9
      generalize f 10 = y10
      generalize f 11 = y11
      generalize f 12 = y12
      generalize f 13 = y13
      generalize f 14 = y14
      generalize f 15 = y15
      generalize f 16 = y16
      generalize f 17 = y17
      generalize f 18 = y18
      generalize f 19 = y19
      generalize f 20 = y20
      generalize f 21 = y21
      generalize f 22 = y22
      generalize f 23 = y23
      replace P := Lib.hid (P.out.ex xw)
      clear xw
      go_wp2_with (first | (with_reducible refine stop_load (t := 70) ?_) | (with_reducible refine stop_store (t := 70) ?_) | (with_reducible refine stop_load (t := 72) ?_) | (with_reducible refine stop_store (t := 72) ?_) | (with_reducible refine stop_build (t := 70) ?_))
      refine (same_st P.out).mono ?_
      rintro e wz ⟨rfl, xx⟩
      replace P := Lib.hid (P.out.ex xx)
      clear xx
      go_wp2_with (first | (with_reducible refine stop_load (t := 70) ?_) | (with_reducible refine stop_store (t := 70) ?_) | (with_reducible refine stop_load (t := 72) ?_) | (with_reducible refine stop_store (t := 72) ?_) | (with_reducible refine stop_build (t := 70) ?_))
      refine ⟨⟨_, _, k + 1, ls, ⟨by omega, P⟩, rfl, rfl, rfl, rfl, rfl, rfl, rfl, rfl, rfl⟩, by simp [p21M, intOf]; omega⟩
  · have r0 : (0 : Int) ≤ (p : Int) := by omega
    have r1 : (p : Int) < (N : Int) := by omega
    obtain ⟨⟨b, z⟩, hpx⟩ : ∃ x, ls[p]? = some x := ⟨_, List.getElem?_eq_getElem (by rw [← HN.out]; exact hp)⟩
    have HCX : Hid ((ctO ls)[p]? = some (b, z.ct)) := Lib.hid (by unfold ctO; rw [List.getElem?_map, hpx]; rfl)
    cases b
    · have HPX := Lib.hid hpx
      obtain ⟨ah, oh, hadh, hlh, hch⟩ := HBIN.out.2 (by omega)
      subst hadh
      have cb : w2.cell? ⟨ah, oh + p, none⟩ = some (.bool false) := by
        refine (Below.cell (p := ⟨ah, oh + p, none⟩) XW.out hlh).trans ((hch p hp).trans ?_)
        show some (Value.bool ((ls.map (·.1)).getD p false)) = _
        rw [List.getD_eq_getElem?_getD, List.getElem?_map, hpx]; rfl
      have HCB := Lib.hid cb
      have HLH := Lib.hid (Nat.lt_of_lt_of_le hlh XW.out.sz)
      clear hch hlh cb
      clear hpx
      go_wp2_with (first | (with_reducible refine stop_load (t := 70) ?_) | (with_reducible refine stop_store (t := 70) ?_) | (with_reducible refine stop_load (t := 72) ?_) | (with_reducible refine stop_store (t := 72) ?_) | (with_reducible refine stop_build (t := 70) ?_))
      refine (take_yes O (ctO ls) p z.ct w2 P.out.off HCX.out).mono ?_
      rintro e w4 ⟨x, rfl, hxc, hxn, hof, hft⟩
      replace P := Lib.hid (P.out.ft hft hof)
      clear hof hft
      have HXZ := Lib.hid hxc
      have HXN := Lib.hid hxn
      clear hxc hxn
      go_wp2_with (first | (with_reducible refine stop_load (t := 70) ?_) | (with_reducible refine stop_store (t := 70) ?_) | (with_reducible refine stop_load (t := 72) ?_) | (with_reducible refine stop_store (t := 72) ?_) | (with_reducible refine stop_build (t := 70) ?_))
      (with_reducible refine ⟨?_⟩); (with_reducible refine at_any ?_ ?_); (focus go_simp); refine fun K0 hK => st_lx _ _ w4.heap.size 70 Try.sizeLt x rfl rfl rfl HXN.out.1 (Bk.new rfl _ _) (by rfl) (fun w5 hd9 ho => hK _ _ ?_)
      clear hK
      have xx : Ex w4 w5 := ho.below w4.heap.size (Nat.le_refl _) w4 (Ex.alloc w4 _)
      replace P := Lib.hid (P.out.ex xx)
      replace HXN := Lib.hid (HXN.out.ext xx)
      obtain ⟨g, hg⟩ : ∃ g, g = w4.heap.size := ⟨_, rfl⟩
      rw [← hg] at hd9 ⊢
      have HG := Lib.hid hd9
      clear xx ho hd9 hg c0 c1
      obtain ⟨adh2, caph2, hhe, hbin5⟩ := P.out.bp (by have := HN.out; omega)
      rw [← HN.out] at hhe
      cases hhe
      obtain ⟨ah5, oh5, hadh5, hlh5, hch5⟩ := hbin5.2 (by have := HN.out; omega)
      cases hadh5
      have cb := hch5 p (by rw [← HN.out]; exact hp)
      rw [show (fun i => (ls.map (·.1)).getD i false) p = false from by show (ls.map (·.1)).getD p false = _; rw [List.getD_eq_getElem?_getD, List.getElem?_map, HPX.out]; rfl] at cb
      clear hbin5 hlh5 hch5
      obtain ⟨adm2, capm2, hme, hlp⟩ := P.out.lp
      rw [← HN.out] at hme
      cases hme
      obtain ⟨am, om, hadm, hlm, hrm⟩ := hlp.read (by rw [List.length_map, ← HN.out]; omega)
      subst hadm
      have HZR := Lib.hid (hrm p z (by rw [List.getElem?_map, HPX.out]; rfl))
      have HAM := Lib.hid hlm
      have HZB := Lib.hid (P.out.lets p _ HPX.out)
      clear hlp hlm hrm
      go_wp2_with fail
      obtain ⟨T, hT⟩ : ∃ T : List (Rv w5.heap.size), T = [.is (.bool true), .is (.bool true), .is (.bool false), .is (.bool false), .is (.bool true), .is (.bool true), .is (x.V), .is (.slice (some ⟨am, om, none⟩) N capm), .is (.int .i64 p), .is (.pointer (some ⟨am, om + p * 4, none⟩)), .is (z.V), .is (.bool true), .is (.bool false), .is (.bool false), .is (.bool false), .is (.bool false), .is (.bool true), .is (.bool false), .is (.bool false), .any, .any, .any, .any, .is (.bool false), .is (.bool false)] := ⟨_, rfl⟩
      have HTY : T.map Rv.ty = ([0, 0, 0, 0, 0, 0, 0, 0, 0, 0, 0, 0, 0, 0, 0, 0, 0, 0, 0, 0, 0, 0, 0, 0, 0] : List Nat) := by rw [hT]; rfl
      refine wp_region_gen (JR w5.heap.size w5 [0] T ([0, 0, 0, 0, 0, 0, 0, 0, 0, 0, 0, 0, 0, 0, 0, 0, 0, 0, 0, 0, 0, 0, 0, 0, 0] : List Nat) ([none, none, none, none, none, none, none, none, none, none, none, none, none, none, none, none, none, none, none, none, none, none, none, none, none] : List (Option Nat)) ([] : List (Nat × Nat))) (by kernel_rfl) (by kernel_rfl) (by kernel_rfl) (fitB_spec (by kernel_rfl)) (fun listed f h => JR.start (Nat.le_refl _) listed f h) ?_ ?_
      · intro i o ho
        have hi : i < 25 := (Array.getElem?_eq_some_iff.1 ho).1
        have hi' : i = 0 ∨ i = 1 ∨ i = 2 ∨ i = 3 ∨ i = 4 ∨ i = 5 ∨ i = 6 ∨ i = 7 ∨ i = 8 ∨ i = 9 ∨ i = 10 ∨ i = 11 ∨ i = 12 ∨ i = 13 ∨ i = 14 ∨ i = 15 ∨ i = 16 ∨ i = 17 ∨ i = 18 ∨ i = 19 ∨ i = 20 ∨ i = 21 ∨ i = 22 ∨ i = 23 ∨ i = 24 := by omega
        clear hi
        rcases hi' with rfl | rfl | rfl | rfl | rfl | rfl | rfl | rfl | rfl | rfl | rfl | rfl | rfl | rfl | rfl | rfl | rfl | rfl | rfl | rfl | rfl | rfl | rfl | rfl | rfl
        all_goals (simp only [List.getElem?_toArray, List.getElem?_cons_zero, List.getElem?_cons_succ, Option.some.injEq] at ho; subst ho; intro listed f a w2 hJ hsz hls hun hdep hout hlat)
        · rw [if_pos (by rfl)]
          intro K hK
          have q13 := hout 13 (outB_spec (by kernel_rfl))
          have hord : ∀ x ∈ ([] : List (Nat × Nat)), x.1 = 0 → listed.getD x.2 false = true := by simp
          refine wp_mv _ rfl (hK _ _ ?_)
          rw [show a.eval (.tmp 13) = .bool true from q13]
          exact hJ.plain HTY (by rw [hls]; decide) (Ex.refl _) (by rw [hT]; rfl) hord
        · rw [if_pos (by rfl)]
          intro K hK
          have q14 := hout 14 (outB_spec (by kernel_rfl))
          have hord : ∀ x ∈ ([] : List (Nat × Nat)), x.1 = 1 → listed.getD x.2 false = true := by simp
          refine wp_mv _ rfl (hK _ _ ?_)
          rw [show a.eval (.tmp 14) = .bool true from q14]
          exact hJ.plain HTY (by rw [hls]; decide) (Ex.refl _) (by rw [hT]; rfl) hord
        · rw [if_pos (by rfl)]
          intro K hK
          have dd96 := hdep ⟨0, .data⟩ (by simp) rfl
          have q96 := dd96.2 _ rfl _ rfl
          have h96 := hJ.vals 0 dd96.1 (fun c hc => by have hc : none = some c := hc; cases hc)
          rw [hT] at h96
          rw [show f 0 = .bool true from h96] at q96
          clear h96
          clear dd96
          have dd97 := hdep ⟨1, .data⟩ (by simp) rfl
          have q97 := dd97.2 _ rfl _ rfl
          have h97 := hJ.vals 1 dd97.1 (fun c hc => by have hc : none = some c := hc; cases hc)
          rw [hT] at h97
          rw [show f 1 = .bool true from h97] at q97
          clear h97
          clear dd97
          have hord : ∀ x ∈ ([] : List (Nat × Nat)), x.1 = 2 → listed.getD x.2 false = true := by simp
          rw [Array.getD_eq_getD_getElem?] at q96
          rw [Array.getD_eq_getD_getElem?] at q97
          clear hsz hdep hout hlat
          go_simp
          exact hK _ _ (hJ.plain HTY (by rw [hls]; decide) (Ex.refl _) (by rw [hT]; first | rfl | exact congrArg (Value.int .i64) (by omega) | exact congrArg (Value.int .i64) (by rw [IntKind.wrap_i64]; omega)) hord)
        · rw [if_pos (by rfl)]
          intro K hK
          have dd98 := hdep ⟨2, .data⟩ (by simp) rfl
          have q98 := dd98.2 _ rfl _ rfl
          have h98 := hJ.vals 2 dd98.1 (fun c hc => by have hc : none = some c := hc; cases hc)
          rw [hT] at h98
          rw [show f 2 = .bool false from h98] at q98
          clear h98
          clear dd98
          have hord : ∀ x ∈ ([] : List (Nat × Nat)), x.1 = 3 → listed.getD x.2 false = true := by simp
          refine wp_mv _ rfl (hK _ _ ?_)
          rw [show a.eval (.tmp 98) = .bool false from q98]
          exact hJ.plain HTY (by rw [hls]; decide) (Ex.refl _) (by rw [hT]; rfl) hord
        · have ddg := hdep ⟨3, .guard⟩ (by simp) rfl
          have kg := ddg.2 _ rfl _ rfl
          have hg := hJ.vals 3 ddg.1 (fun c hc => by have hc : none = some c := hc; cases hc)
          rw [hT] at hg
          rw [show f 3 = .bool false from hg] at kg
          clear hg ddg
          rw [if_pos (wanted_of rfl rfl rfl kg)]
          clear kg
          intro K hK
          have q13 := hout 13 (outB_spec (by kernel_rfl))
          have hord : ∀ x ∈ ([] : List (Nat × Nat)), x.1 = 4 → listed.getD x.2 false = true := by simp
          refine wp_mv _ rfl (hK _ _ ?_)
          rw [show a.eval (.tmp 13) = .bool true from q13]
          exact hJ.plain HTY (by rw [hls]; decide) (Ex.refl _) (by rw [hT]; rfl) hord
        · have ddg := hdep ⟨3, .guard⟩ (by simp) rfl
          have kg := ddg.2 _ rfl _ rfl
          have hg := hJ.vals 3 ddg.1 (fun c hc => by have hc : none = some c := hc; cases hc)
          rw [hT] at hg
          rw [show f 3 = .bool false from hg] at kg
          clear hg ddg
          rw [if_pos (wanted_of rfl rfl rfl kg)]
          clear kg
          intro K hK
          have dd100 := hdep ⟨4, .data⟩ (by simp) rfl
          have q100 := dd100.2 _ rfl _ rfl
          have h100 := hJ.vals 4 dd100.1 (fun c hc => by have hc : none = some c := hc; cases hc)
          rw [hT] at h100
          rw [show f 4 = .bool true from h100] at q100
          clear h100
          clear dd100
          have hord : ∀ x ∈ ([] : List (Nat × Nat)), x.1 = 5 → listed.getD x.2 false = true := by simp
          refine wp_mv _ rfl (hK _ _ ?_)
          rw [show a.eval (.tmp 100) = .bool true from q100]
          exact hJ.plain HTY (by rw [hls]; decide) (Ex.refl _) (by rw [hT]; rfl) hord
        · have ddg := hdep ⟨5, .guard⟩ (by simp) rfl
          have kg := ddg.2 _ rfl _ rfl
          have hg := hJ.vals 5 ddg.1 (fun c hc => by have hc : none = some c := hc; cases hc)
          rw [hT] at hg
          rw [show f 5 = .bool true from hg] at kg
          clear hg ddg
          rw [if_pos (wanted_of rfl rfl rfl kg)]
          clear kg
          intro K hK
          have q12 := hout 12 (outB_spec (by kernel_rfl))
          have hord : ∀ x ∈ ([] : List (Nat × Nat)), x.1 = 6 → listed.getD x.2 false = true := by simp
          exact ld_lx (.tmp 12) g 70 x rfl q12 (HG.out.ext hJ.ext.below) (hK _ _ (hJ.plain HTY (by rw [hls]; decide) (Ex.refl _) (by rw [hT]; rfl) hord))
        · have ddg := hdep ⟨5, .guard⟩ (by simp) rfl
          have kg := ddg.2 _ rfl _ rfl
          have hg := hJ.vals 5 ddg.1 (fun c hc => by have hc : none = some c := hc; cases hc)
          rw [hT] at hg
          rw [show f 5 = .bool true from hg] at kg
          clear hg ddg
          rw [if_pos (wanted_of rfl rfl rfl kg)]
          clear kg
          intro K hK
          have q6 := hout 6 (outB_spec (by kernel_rfl))
          have hord : ∀ x ∈ ([] : List (Nat × Nat)), x.1 = 7 → listed.getD x.2 false = true := by simp
          refine wp_mv _ rfl (hK _ _ ?_)
          rw [show a.eval (.tmp 6) = .slice (some ⟨am, om, none⟩) N capm from q6]
          exact hJ.plain HTY (by rw [hls]; decide) (Ex.refl _) (by rw [hT]; rfl) hord
        · have ddg := hdep ⟨5, .guard⟩ (by simp) rfl
          have kg := ddg.2 _ rfl _ rfl
          have hg := hJ.vals 5 ddg.1 (fun c hc => by have hc : none = some c := hc; cases hc)
          rw [hT] at hg
          rw [show f 5 = .bool true from hg] at kg
          clear hg ddg
          rw [if_pos (wanted_of rfl rfl rfl kg)]
          clear kg
          intro K hK
          have q10 := hout 10 (outB_spec (by kernel_rfl))
          have hord : ∀ x ∈ ([] : List (Nat × Nat)), x.1 = 8 → listed.getD x.2 false = true := by simp
          refine wp_mv _ rfl (hK _ _ ?_)
          rw [show a.eval (.tmp 10) = .int .i64 p from q10]
          exact hJ.plain HTY (by rw [hls]; decide) (Ex.refl _) (by rw [hT]; rfl) hord
        · have ddg := hdep ⟨5, .guard⟩ (by simp) rfl
          have kg := ddg.2 _ rfl _ rfl
          have hg := hJ.vals 5 ddg.1 (fun c hc => by have hc : none = some c := hc; cases hc)
          rw [hT] at hg
          rw [show f 5 = .bool true from hg] at kg
          clear hg ddg
          rw [if_pos (wanted_of rfl rfl rfl kg)]
          clear kg
          intro K hK
          have dd103 := hdep ⟨7, .data⟩ (by simp) rfl
          have q103 := dd103.2 _ rfl _ rfl
          have h103 := hJ.vals 7 dd103.1 (fun c hc => by have hc : none = some c := hc; cases hc)
          rw [hT] at h103
          rw [show f 7 = .slice (some ⟨am, om, none⟩) N capm from h103] at q103
          clear h103
          clear dd103
          have dd104 := hdep ⟨8, .data⟩ (by simp) rfl
          have q104 := dd104.2 _ rfl _ rfl
          have h104 := hJ.vals 8 dd104.1 (fun c hc => by have hc : none = some c := hc; cases hc)
          rw [hT] at h104
          rw [show f 8 = .int .i64 p from h104] at q104
          clear h104
          clear dd104
          have hord : ∀ x ∈ ([] : List (Nat × Nat)), x.1 = 9 → listed.getD x.2 false = true := by simp
          rw [Array.getD_eq_getD_getElem?] at q103
          rw [Array.getD_eq_getD_getElem?] at q104
          clear hsz hdep hout hlat
          go_simp
          exact hK _ _ (hJ.plain HTY (by rw [hls]; decide) (Ex.refl _) (by rw [hT]; first | rfl | exact congrArg (Value.int .i64) (by omega) | exact congrArg (Value.int .i64) (by rw [IntKind.wrap_i64]; omega)) hord)
        · have ddg := hdep ⟨5, .guard⟩ (by simp) rfl
          have kg := ddg.2 _ rfl _ rfl
          have hg := hJ.vals 5 ddg.1 (fun c hc => by have hc : none = some c := hc; cases hc)
          rw [hT] at hg
          rw [show f 5 = .bool true from hg] at kg
          clear hg ddg
          rw [if_pos (wanted_of rfl rfl rfl kg)]
          clear kg
          intro K hK
          have dd105 := hdep ⟨9, .data⟩ (by simp) rfl
          have q105 := dd105.2 _ rfl _ rfl
          have h105 := hJ.vals 9 dd105.1 (fun c hc => by have hc : none = some c := hc; cases hc)
          rw [hT] at h105
          rw [show f 9 = .pointer (some ⟨am, om + p * 4, none⟩) from h105] at q105
          clear h105
          clear dd105
          have hord : ∀ x ∈ ([] : List (Nat × Nat)), x.1 = 10 → listed.getD x.2 false = true := by simp
          exact ld_lr (.tmp 105) am (om + p * 4) z rfl q105 (fun j u hu => (Below.cell (p := ⟨am, om + p * 4 + j, none⟩) hJ.ext.below HAM.out).trans (HZR.out j u hu)) (hK _ _ (hJ.plain HTY (by rw [hls]; decide) (Ex.refl _) (by rw [hT]; rfl) hord))
        · have ddg := hdep ⟨5, .guard⟩ (by simp) rfl
          have kg := ddg.2 _ rfl _ rfl
          have hg := hJ.vals 5 ddg.1 (fun c hc => by have hc : none = some c := hc; cases hc)
          rw [hT] at hg
          rw [show f 5 = .bool true from hg] at kg
          clear hg ddg
          rw [if_pos (wanted_of rfl rfl rfl kg)]
          clear kg
          intro K hK
          have dd102 := hdep ⟨6, .data⟩ (by simp) rfl
          have q102 := dd102.2 _ rfl _ rfl
          have h102 := hJ.vals 6 dd102.1 (fun c hc => by have hc : none = some c := hc; cases hc)
          rw [hT] at h102
          rw [show f 6 = x.V from h102] at q102
          clear h102
          clear dd102
          have dd106 := hdep ⟨10, .data⟩ (by simp) rfl
          have q106 := dd106.2 _ rfl _ rfl
          have h106 := hJ.vals 10 dd106.1 (fun c hc => by have hc : none = some c := hc; cases hc)
          rw [hT] at h106
          rw [show f 10 = z.V from h106] at q106
          clear h106
          clear dd106
          have hord : ∀ x ∈ ([] : List (Nat × Nat)), x.1 = 11 → listed.getD x.2 false = true := by simp
          rw [Array.getD_eq_getD_getElem?] at q102
          rw [Array.getD_eq_getD_getElem?] at q106
          clear hsz hdep hout hlat
          go_simp
          refine (letter_same x z HXZ.out w2 HXN.out.1 HZB.out.1 (HXN.out.ext hJ.ext.below).2.1 (HZB.out.2.1.ext (Ex.trans P.out.ext hJ.ext.below))).mono ?_
          rintro e w3 ⟨rfl, x3⟩
          exact hK _ _ (hJ.plain HTY (by rw [hls]; decide) x3 (by rw [hT]; rfl) hord)
        · have ddg := hdep ⟨5, .guard⟩ (by simp) rfl
          have kg := ddg.2 _ rfl _ rfl
          have hg := hJ.vals 5 ddg.1 (fun c hc => by have hc : none = some c := hc; cases hc)
          rw [hT] at hg
          rw [show f 5 = .bool true from hg] at kg
          clear hg ddg
          rw [if_pos (wanted_of rfl rfl rfl kg)]
          clear kg
          intro K hK
          have dd107 := hdep ⟨11, .data⟩ (by simp) rfl
          have q107 := dd107.2 _ rfl _ rfl
          have h107 := hJ.vals 11 dd107.1 (fun c hc => by have hc : none = some c := hc; cases hc)
          rw [hT] at h107
          rw [show f 11 = .bool true from h107] at q107
          clear h107
          clear dd107
          have hord : ∀ x ∈ ([] : List (Nat × Nat)), x.1 = 12 → listed.getD x.2 false = true := by simp
          rw [Array.getD_eq_getD_getElem?] at q107
          clear hsz hdep hout hlat
          go_simp
          exact hK _ _ (hJ.plain HTY (by rw [hls]; decide) (Ex.refl _) (by rw [hT]; first | rfl | exact congrArg (Value.int .i64) (by omega) | exact congrArg (Value.int .i64) (by rw [IntKind.wrap_i64]; omega)) hord)
        · have ddg := hdep ⟨3, .guard⟩ (by simp) rfl
          have kg := ddg.2 _ rfl _ rfl
          have hg := hJ.vals 3 ddg.1 (fun c hc => by have hc : none = some c := hc; cases hc)
          rw [hT] at hg
          rw [show f 3 = .bool false from hg] at kg
          clear hg ddg
          rw [if_pos (wanted_of rfl rfl rfl kg)]
          clear kg
          intro K hK
          have dd101 := hdep ⟨5, .data⟩ (by simp) rfl
          have q101 := dd101.2 _ rfl _ rfl
          have h101 := hJ.vals 5 dd101.1 (fun c hc => by have hc : none = some c := hc; cases hc)
          rw [hT] at h101
          rw [show f 5 = .bool true from h101] at q101
          clear h101
          clear dd101
          have dd108 := hdep ⟨12, .data⟩ (by simp) rfl
          have q108 := dd108.2 _ rfl _ rfl
          have h108 := hJ.vals 12 dd108.1 (fun c hc => by have hc : none = some c := hc; cases hc)
          rw [hT] at h108
          rw [show f 12 = .bool false from h108] at q108
          clear h108
          clear dd108
          have hord : ∀ x ∈ ([] : List (Nat × Nat)), x.1 = 13 → listed.getD x.2 false = true := by simp
          rw [Array.getD_eq_getD_getElem?] at q101
          rw [Array.getD_eq_getD_getElem?] at q108
          clear hsz hdep hout hlat
          go_simp
          exact hK _ _ (hJ.plain HTY (by rw [hls]; decide) (Ex.refl _) (by rw [hT]; first | rfl | exact congrArg (Value.int .i64) (by omega) | exact congrArg (Value.int .i64) (by rw [IntKind.wrap_i64]; omega)) hord)
        · rw [if_pos (by rfl)]
          intro K hK
          have dd99 := hdep ⟨3, .data⟩ (by simp) rfl
          have q99 := dd99.2 _ rfl _ rfl
          have h99 := hJ.vals 3 dd99.1 (fun c hc => by have hc : none = some c := hc; cases hc)
          rw [hT] at h99
          rw [show f 3 = .bool false from h99] at q99
          clear h99
          clear dd99
          have dd109 := hdep ⟨13, .data⟩ (by simp) rfl
          have q109 := dd109.2 _ rfl _ rfl
          have h109 := hJ.vals 13 dd109.1 (fun c hc => by have hc : none = some c := hc; cases hc)
          rw [hT] at h109
          rw [show f 13 = .bool false from h109] at q109
          clear h109
          clear dd109
          have hord : ∀ x ∈ ([] : List (Nat × Nat)), x.1 = 14 → listed.getD x.2 false = true := by simp
          rw [Array.getD_eq_getD_getElem?] at q99
          rw [Array.getD_eq_getD_getElem?] at q109
          clear hsz hdep hout hlat
          go_simp
          exact hK _ _ (hJ.plain HTY (by rw [hls]; decide) (Ex.refl _) (by rw [hT]; first | rfl | exact congrArg (Value.int .i64) (by omega) | exact congrArg (Value.int .i64) (by rw [IntKind.wrap_i64]; omega)) hord)
        · rw [if_pos (by rfl)]
          intro K hK
          have dd110 := hdep ⟨14, .data⟩ (by simp) rfl
          have q110 := dd110.2 _ rfl _ rfl
          have h110 := hJ.vals 14 dd110.1 (fun c hc => by have hc : none = some c := hc; cases hc)
          rw [hT] at h110
          rw [show f 14 = .bool false from h110] at q110
          clear h110
          clear dd110
          have hord : ∀ x ∈ ([] : List (Nat × Nat)), x.1 = 15 → listed.getD x.2 false = true := by simp
          refine wp_mv _ rfl (hK _ _ ?_)
          rw [show a.eval (.tmp 110) = .bool false from q110]
          exact hJ.plain HTY (by rw [hls]; decide) (Ex.refl _) (by rw [hT]; rfl) hord
        · have ddg := hdep ⟨15, .guard⟩ (by simp) rfl
          have kg := ddg.2 _ rfl _ rfl
          have hg := hJ.vals 15 ddg.1 (fun c hc => by have hc : none = some c := hc; cases hc)
          rw [hT] at hg
          rw [show f 15 = .bool false from hg] at kg
          clear hg ddg
          rw [if_pos (wanted_of rfl rfl rfl kg)]
          clear kg
          intro K hK
          have q13 := hout 13 (outB_spec (by kernel_rfl))
          have hord : ∀ x ∈ ([] : List (Nat × Nat)), x.1 = 16 → listed.getD x.2 false = true := by simp
          refine wp_mv _ rfl (hK _ _ ?_)
          rw [show a.eval (.tmp 13) = .bool true from q13]
          exact hJ.plain HTY (by rw [hls]; decide) (Ex.refl _) (by rw [hT]; rfl) hord
        · have ddg := hdep ⟨15, .guard⟩ (by simp) rfl
          have kg := ddg.2 _ rfl _ rfl
          have hg := hJ.vals 15 ddg.1 (fun c hc => by have hc : none = some c := hc; cases hc)
          rw [hT] at hg
          rw [show f 15 = .bool false from hg] at kg
          clear hg ddg
          rw [if_pos (wanted_of rfl rfl rfl kg)]
          clear kg
          intro K hK
          have dd112 := hdep ⟨16, .data⟩ (by simp) rfl
          have q112 := dd112.2 _ rfl _ rfl
          have h112 := hJ.vals 16 dd112.1 (fun c hc => by have hc : none = some c := hc; cases hc)
          rw [hT] at h112
          rw [show f 16 = .bool true from h112] at q112
          clear h112
          clear dd112
          have hord : ∀ x ∈ ([] : List (Nat × Nat)), x.1 = 17 → listed.getD x.2 false = true := by simp
          rw [Array.getD_eq_getD_getElem?] at q112
          clear hsz hdep hout hlat
          go_simp
          exact hK _ _ (hJ.plain HTY (by rw [hls]; decide) (Ex.refl _) (by rw [hT]; first | rfl | exact congrArg (Value.int .i64) (by omega) | exact congrArg (Value.int .i64) (by rw [IntKind.wrap_i64]; omega)) hord)
        · have ddg := hdep ⟨15, .guard⟩ (by simp) rfl
          have kg := ddg.2 _ rfl _ rfl
          have hg := hJ.vals 15 ddg.1 (fun c hc => by have hc : none = some c := hc; cases hc)
          rw [hT] at hg
          rw [show f 15 = .bool false from hg] at kg
          clear hg ddg
          rw [if_pos (wanted_of rfl rfl rfl kg)]
          clear kg
          intro K hK
          have dd113 := hdep ⟨17, .data⟩ (by simp) rfl
          have q113 := dd113.2 _ rfl _ rfl
          have h113 := hJ.vals 17 dd113.1 (fun c hc => by have hc : none = some c := hc; cases hc)
          rw [hT] at h113
          rw [show f 17 = .bool false from h113] at q113
          clear h113
          clear dd113
          have hord : ∀ x ∈ ([] : List (Nat × Nat)), x.1 = 18 → listed.getD x.2 false = true := by simp
          refine wp_mv _ rfl (hK _ _ ?_)
          rw [show a.eval (.tmp 113) = .bool false from q113]
          exact hJ.plain HTY (by rw [hls]; decide) (Ex.refl _) (by rw [hT]; rfl) hord
        · have ddg := hdep ⟨18, .guard⟩ (by simp) rfl
          have kg := ddg.2 _ rfl _ rfl
          have hg := hJ.vals 18 ddg.1 (fun c hc => by have hc : none = some c := hc; cases hc)
          rw [hT] at hg
          rw [show f 18 = .bool false from hg] at kg
          clear hg ddg
          have hord : ∀ x ∈ ([] : List (Nat × Nat)), x.1 = 19 → listed.getD x.2 false = true := by simp
          rw [if_neg (not_wanted rfl rfl rfl kg (by decide))]
          exact hJ.plain HTY (by rw [hls]; decide) (Ex.refl _) (by rw [hT]; exact trivial) hord
        · have ddg := hdep ⟨18, .guard⟩ (by simp) rfl
          have kg := ddg.2 _ rfl _ rfl
          have hg := hJ.vals 18 ddg.1 (fun c hc => by have hc : none = some c := hc; cases hc)
          rw [hT] at hg
          rw [show f 18 = .bool false from hg] at kg
          clear hg ddg
          have hord : ∀ x ∈ ([] : List (Nat × Nat)), x.1 = 20 → listed.getD x.2 false = true := by simp
          rw [if_neg (not_wanted rfl rfl rfl kg (by decide))]
          exact hJ.plain HTY (by rw [hls]; decide) (Ex.refl _) (by rw [hT]; exact trivial) hord
        · have ddg := hdep ⟨18, .guard⟩ (by simp) rfl
          have kg := ddg.2 _ rfl _ rfl
          have hg := hJ.vals 18 ddg.1 (fun c hc => by have hc : none = some c := hc; cases hc)
          rw [hT] at hg
          rw [show f 18 = .bool false from hg] at kg
          clear hg ddg
          have hord : ∀ x ∈ ([] : List (Nat × Nat)), x.1 = 21 → listed.getD x.2 false = true := by simp
          rw [if_neg (not_wanted rfl rfl rfl kg (by decide))]
          exact hJ.plain HTY (by rw [hls]; decide) (Ex.refl _) (by rw [hT]; exact trivial) hord
        · have ddg := hdep ⟨18, .guard⟩ (by simp) rfl
          have kg := ddg.2 _ rfl _ rfl
          have hg := hJ.vals 18 ddg.1 (fun c hc => by have hc : none = some c := hc; cases hc)
          rw [hT] at hg
          rw [show f 18 = .bool false from hg] at kg
          clear hg ddg
          have hord : ∀ x ∈ ([] : List (Nat × Nat)), x.1 = 22 → listed.getD x.2 false = true := by simp
          rw [if_neg (not_wanted rfl rfl rfl kg (by decide))]
          exact hJ.plain HTY (by rw [hls]; decide) (Ex.refl _) (by rw [hT]; exact trivial) hord
        · have ddg := hdep ⟨15, .guard⟩ (by simp) rfl
          have kg := ddg.2 _ rfl _ rfl
          have hg := hJ.vals 15 ddg.1 (fun c hc => by have hc : none = some c := hc; cases hc)
          rw [hT] at hg
          rw [show f 15 = .bool false from hg] at kg
          clear hg ddg
          rw [if_pos (wanted_of rfl rfl rfl kg)]
          clear kg
          intro K hK
          have dd114 := hdep ⟨18, .data⟩ (by simp) rfl
          have q114 := dd114.2 _ rfl _ rfl
          have h114 := hJ.vals 18 dd114.1 (fun c hc => by have hc : none = some c := hc; cases hc)
          rw [hT] at h114
          rw [show f 18 = .bool false from h114] at q114
          clear h114
          clear dd114
          have dd118 := hdep ⟨22, .data⟩ (by simp) rfl
          have q118 := dd118.2 _ rfl _ rfl
          have hord : ∀ x ∈ ([] : List (Nat × Nat)), x.1 = 23 → listed.getD x.2 false = true := by simp
          rw [Array.getD_eq_getD_getElem?] at q114
          rw [Array.getD_eq_getD_getElem?] at q118
          clear hsz hdep hout hlat
          go_simp
          exact hK _ _ (hJ.plain HTY (by rw [hls]; decide) (Ex.refl _) (by rw [hT]; first | rfl | exact congrArg (Value.int .i64) (by omega) | exact congrArg (Value.int .i64) (by rw [IntKind.wrap_i64]; omega)) hord)
        · rw [if_pos (by rfl)]
          intro K hK
          have dd111 := hdep ⟨15, .data⟩ (by simp) rfl
          have q111 := dd111.2 _ rfl _ rfl
          have h111 := hJ.vals 15 dd111.1 (fun c hc => by have hc : none = some c := hc; cases hc)
          rw [hT] at h111
          rw [show f 15 = .bool false from h111] at q111
          clear h111
          clear dd111
          have dd119 := hdep ⟨23, .data⟩ (by simp) rfl
          have q119 := dd119.2 _ rfl _ rfl
          have h119 := hJ.vals 23 dd119.1 (fun c hc => by have hc : none = some c := hc; cases hc)
          rw [hT] at h119
          rw [show f 23 = .bool false from h119] at q119
          clear h119
          clear dd119
          have hord : ∀ x ∈ ([] : List (Nat × Nat)), x.1 = 24 → listed.getD x.2 false = true := by simp
          rw [Array.getD_eq_getD_getElem?] at q111
          rw [Array.getD_eq_getD_getElem?] at q119
          clear hsz hdep hout hlat
          go_simp
          exact hK _ _ (hJ.plain HTY (by rw [hls]; decide) (Ex.refl _) (by rw [hT]; first | rfl | exact congrArg (Value.int .i64) (by omega) | exact congrArg (Value.int .i64) (by rw [IntKind.wrap_i64]; omega)) hord)
      · intro listed f w2 hall hJ
        have f24 : f 24 = .bool false := by
          have h := hJ.vals 24 (hall 24 (by simp)) (fun c hc => by have hc : none = some c := hc; cases hc)
          rw [hT] at h; exact h
        have xw : Ex w5 w2 := hJ.ext.below
        simp only [putAll, Act.put, List.setIfInBounds_toArray, List.set_cons_zero, List.set_cons_succ, Nat.zero_add, Nat.reduceAdd]
        rw [f24]
        clear f24
        clear hJ hall hT HTY
        generalize f 0 = y0
        generalize f 1 = y1
        generalize f 2 = y2
        generalize f 3 = y3
        generalize f 4 = y4
        generalize f 5 = y5
        generalize f 6 = y6
        generalize f 7 = y7
        generalize f 8 = y8
        generalize f 9 = y9
        generalize f 10 = y10
        generalize f 11 = y11
        generalize f 12 = y12
        generalize f 13 = y13
        generalize f 14 = y14
        generalize f 15 = y15
        generalize f 16 = y16
        generalize f 17 = y17
        generalize f 18 = y18
        generalize f 19 = y19
        generalize f 20 = y20
        generalize f 21 = y21
        generalize f 22 = y22
        generalize f 23 = y23
        replace P := Lib.hid (P.out.ex xw)
        clear xw
        go_wp2_with (first | (with_reducible refine stop_load (t := 70) ?_) | (with_reducible refine stop_store (t := 70) ?_) | (with_reducible refine stop_load (t := 72) ?_) | (with_reducible refine stop_store (t := 72) ?_) | (with_reducible refine stop_build (t := 70) ?_))
        skip
        clear HG HXN HXZ HZR HAM cb XW HCB HLH HBIN HGA
        skip
        obtain ⟨-, nlm, clm, xlm, RM⟩ := own_form P.out.mrow
        obtain ⟨-, nlh, clh, xlh, RH⟩ := own_form P.out.hrow
        rw [← HN.out] at clm RM clh RH
        have HRM := Lib.hid RM
        have HRH := Lib.hid RH
        have NLM := Lib.hid nlm
        have NLH := Lib.hid nlh
        clear RM RH nlm nlh
        obtain ⟨ad1, es1, en1, rd1⟩ := HRM.out.take NLM.out clm p (by omega)
        obtain ⟨ad2, es2, en2, rd2⟩ := HRM.out.drop NLM.out clm (p + 1) (by omega)
        obtain ⟨ad3, es3, en3, rd3⟩ := HRH.out.take NLH.out clh p (by omega)
        obtain ⟨ad4, es4, en4, rd4⟩ := HRH.out.drop NLH.out clh (p + 1) (by omega)
        have ES1 := Lib.hid es1
        have EN1 := Lib.hid en1
        have RD1 := Lib.hid rd1
        clear es1 en1 rd1
        have ES2 := Lib.hid es2
        have EN2 := Lib.hid en2
        have RD2 := Lib.hid rd2
        clear es2 en2 rd2
        have ES3 := Lib.hid es3
        have EN3 := Lib.hid en3
        have RD3 := Lib.hid rd3
        clear es3 en3 rd3
        have ES4 := Lib.hid es4
        have EN4 := Lib.hid en4
        have RD4 := Lib.hid rd4
        clear es4 en4 rd4
        go_wp2_with fail
        obtain ⟨T, hT⟩ : ∃ T : List (Rv w2.heap.size), T = [.emp 70, .is (.slice (some ⟨am, om, none⟩) N capm), .is (.int .i64 p), .is (.slice ad1 p capm), .own 70 4 (p) ((mC ls).take (p * 4)), .is (.slice (some ⟨am, om, none⟩) N capm), .is (.int .i64 p), .is (.int .i64 ((p + 1 : Nat) : Int)), .is (.slice ad2 (N - (p + 1)) (capm - (p + 1))), .own 70 4 (p + (N - (p + 1))) ((mC ls).take (p * 4) ++ (mC ls).drop ((p + 1) * 4)), .emp 4, .is (.slice (some ⟨ah, oh, none⟩) N caph), .is (.int .i64 p), .is (.slice ad3 p caph), .own 4 1 (p) ((hC ls).take (p * 1)), .is (.slice (some ⟨ah, oh, none⟩) N caph), .is (.int .i64 p), .is (.int .i64 ((p + 1 : Nat) : Int)), .is (.slice ad4 (N - (p + 1)) (caph - (p + 1))), .own 4 1 (p + (N - (p + 1))) ((hC ls).take (p * 1) ++ (hC ls).drop ((p + 1) * 1)), .own 70 4 (p + (N - (p + 1))) ((mC ls).take (p * 4) ++ (mC ls).drop ((p + 1) * 4)), .own 4 1 (p + (N - (p + 1))) ((hC ls).take (p * 1) ++ (hC ls).drop ((p + 1) * 1))] := ⟨_, rfl⟩
        have HTY : T.map Rv.ty = ([70, 0, 0, 0, 70, 0, 0, 0, 0, 70, 4, 0, 0, 0, 4, 0, 0, 0, 0, 4, 70, 4] : List Nat) := by rw [hT]; rfl
        refine wp_region_gen (JR w2.heap.size w2 [70, 4] T ([70, 0, 0, 0, 70, 0, 0, 0, 0, 70, 4, 0, 0, 0, 4, 0, 0, 0, 0, 4, 70, 4] : List Nat) ([some 4, none, none, none, some 9, none, none, none, none, none, some 14, none, none, none, some 19, none, none, none, none, none, none, none] : List (Option Nat)) ([(20, 9), (21, 19)] : List (Nat × Nat))) (by kernel_rfl) (by kernel_rfl) (by kernel_rfl) (fitB_spec (by kernel_rfl)) (fun listed f h => JR.start (Nat.le_refl _) listed f h) ?_ ?_
        · intro i o ho
          have hi : i < 22 := (Array.getElem?_eq_some_iff.1 ho).1
          have hi' : i = 0 ∨ i = 1 ∨ i = 2 ∨ i = 3 ∨ i = 4 ∨ i = 5 ∨ i = 6 ∨ i = 7 ∨ i = 8 ∨ i = 9 ∨ i = 10 ∨ i = 11 ∨ i = 12 ∨ i = 13 ∨ i = 14 ∨ i = 15 ∨ i = 16 ∨ i = 17 ∨ i = 18 ∨ i = 19 ∨ i = 20 ∨ i = 21 := by omega
          clear hi
          rcases hi' with rfl | rfl | rfl | rfl | rfl | rfl | rfl | rfl | rfl | rfl | rfl | rfl | rfl | rfl | rfl | rfl | rfl | rfl | rfl | rfl | rfl | rfl
          all_goals (simp only [List.getElem?_toArray, List.getElem?_cons_zero, List.getElem?_cons_succ, Option.some.injEq] at ho; subst ho; intro listed f a wr2 hJ hsz hls hun hdep hout hlat)
          · rw [if_pos (by rfl)]
            intro K hK
            have hord : ∀ x ∈ ([(20, 9), (21, 19)] : List (Nat × Nat)), x.1 = 0 → listed.getD x.2 false = true := (by intro x hx he; simp only [List.mem_cons, List.not_mem_nil, or_false] at hx; rcases hx with rfl | rfl; all_goals first | (exact absurd he (by decide)) | assumption)
            clear hsz hdep hout hlat
            go_simp
            exact hK _ _ (hJ.plain HTY (by rw [hls]; decide) (Ex.alloc _ _) (by rw [hT]; exact ⟨_, rfl, hJ.lo, Bk.new rfl _ _⟩) hord)
          · rw [if_pos (by rfl)]
            intro K hK
            have q6 := hlat 6 20 _ rfl rfl ⟨⟨1, .phase⟩, by simp, rfl, rfl⟩
            have hord : ∀ x ∈ ([(20, 9), (21, 19)] : List (Nat × Nat)), x.1 = 1 → listed.getD x.2 false = true := (by intro x hx he; simp only [List.mem_cons, List.not_mem_nil, or_false] at hx; rcases hx with rfl | rfl; all_goals first | (exact absurd he (by decide)) | assumption)
            refine wp_mv _ rfl (hK _ _ ?_)
            rw [show a.eval (.tmp 6) = .slice (some ⟨am, om, none⟩) N capm from q6]
            exact hJ.plain HTY (by rw [hls]; decide) (Ex.refl _) (by rw [hT]; rfl) hord
          · rw [if_pos (by rfl)]
            intro K hK
            have q10 := hout 10 (outB_spec (by kernel_rfl))
            have hord : ∀ x ∈ ([(20, 9), (21, 19)] : List (Nat × Nat)), x.1 = 2 → listed.getD x.2 false = true := (by intro x hx he; simp only [List.mem_cons, List.not_mem_nil, or_false] at hx; rcases hx with rfl | rfl; all_goals first | (exact absurd he (by decide)) | assumption)
            refine wp_mv _ rfl (hK _ _ ?_)
            rw [show a.eval (.tmp 10) = .int .i64 p from q10]
            exact hJ.plain HTY (by rw [hls]; decide) (Ex.refl _) (by rw [hT]; rfl) hord
          · rw [if_pos (by rfl)]
            intro K hK
            have dd123 := hdep ⟨1, .data⟩ (by simp) rfl
            have q123 := dd123.2 _ rfl _ rfl
            have h123 := hJ.vals 1 dd123.1 (fun c hc => by have hc : none = some c := hc; cases hc)
            rw [hT] at h123
            rw [show f 1 = .slice (some ⟨am, om, none⟩) N capm from h123] at q123
            clear h123
            clear dd123
            have dd124 := hdep ⟨2, .data⟩ (by simp) rfl
            have q124 := dd124.2 _ rfl _ rfl
            have h124 := hJ.vals 2 dd124.1 (fun c hc => by have hc : none = some c := hc; cases hc)
            rw [hT] at h124
            rw [show f 2 = .int .i64 p from h124] at q124
            clear h124
            clear dd124
            have hord : ∀ x ∈ ([(20, 9), (21, 19)] : List (Nat × Nat)), x.1 = 3 → listed.getD x.2 false = true := (by intro x hx he; simp only [List.mem_cons, List.not_mem_nil, or_false] at hx; rcases hx with rfl | rfl; all_goals first | (exact absurd he (by decide)) | assumption)
            refine wp_sl_h 78 (.tmp 123) (.tmp 124) rfl Try.slLS 4 Try.szLS _ _ _ p q123 q124 (by omega) (hK _ _ ?_)
            exact hJ.plain HTY (by rw [hls]; decide) (Ex.refl _) (by rw [hT]; exact ES1.out) hord
          · rw [if_pos (by rfl)]
            intro K hK
            have dd122 := hdep ⟨0, .data⟩ (by simp) rfl
            have q122 := dd122.2 _ rfl _ rfl
            have h122 := hJ.vals 0 dd122.1 (fun c hc => by have hc : some 4 = some c := hc; cases hc; exact hun)
            rw [hT] at h122
            have h122 : Emp w2.heap.size wr2 70 (f 0) := h122
            clear dd122
            have dd125 := hdep ⟨3, .data⟩ (by simp) rfl
            have q125 := dd125.2 _ rfl _ rfl
            have h125 := hJ.vals 3 dd125.1 (fun c hc => by have hc : none = some c := hc; cases hc)
            rw [hT] at h125
            rw [show f 3 = .slice ad1 p capm from h125] at q125
            clear h125
            clear dd125
            have hord : ∀ x ∈ ([(20, 9), (21, 19)] : List (Nat × Nat)), x.1 = 4 → listed.getD x.2 false = true := (by intro x hx he; simp only [List.mem_cons, List.not_mem_nil, or_false] at hx; rcases hx with rfl | rfl; all_goals first | (exact absurd he (by decide)) | assumption)
            exact wp_rd0 (.tmp 122) (.tmp 125) 78 70 zeroLt.V 4 48 rfl Try.underlying78 Try.infoLt rfl (by decide) w2.heap.size _ q122 h122 hJ.lo ad1 (p) (capm) _ q125 (RD1.out.ext hJ.ext.below) (by omega) EN1.out (fun u hu => mC_one ls u (List.mem_of_mem_take hu)) (by omega) (by omega) (fun v' w' r1 r2 => hK _ _ (hJ.plain HTY (by rw [hls]; decide) r2 (by rw [hT]; exact r1) hord))
          · rw [if_pos (by rfl)]
            intro K hK
            have q6 := hlat 6 20 _ rfl rfl ⟨⟨5, .phase⟩, by simp, rfl, rfl⟩
            have hord : ∀ x ∈ ([(20, 9), (21, 19)] : List (Nat × Nat)), x.1 = 5 → listed.getD x.2 false = true := (by intro x hx he; simp only [List.mem_cons, List.not_mem_nil, or_false] at hx; rcases hx with rfl | rfl; all_goals first | (exact absurd he (by decide)) | assumption)
            refine wp_mv _ rfl (hK _ _ ?_)
            rw [show a.eval (.tmp 6) = .slice (some ⟨am, om, none⟩) N capm from q6]
            exact hJ.plain HTY (by rw [hls]; decide) (Ex.refl _) (by rw [hT]; rfl) hord
          · rw [if_pos (by rfl)]
            intro K hK
            have q10 := hout 10 (outB_spec (by kernel_rfl))
            have hord : ∀ x ∈ ([(20, 9), (21, 19)] : List (Nat × Nat)), x.1 = 6 → listed.getD x.2 false = true := (by intro x hx he; simp only [List.mem_cons, List.not_mem_nil, or_false] at hx; rcases hx with rfl | rfl; all_goals first | (exact absurd he (by decide)) | assumption)
            refine wp_mv _ rfl (hK _ _ ?_)
            rw [show a.eval (.tmp 10) = .int .i64 p from q10]
            exact hJ.plain HTY (by rw [hls]; decide) (Ex.refl _) (by rw [hT]; rfl) hord
          · rw [if_pos (by rfl)]
            intro K hK
            have dd128 := hdep ⟨6, .data⟩ (by simp) rfl
            have q128 := dd128.2 _ rfl _ rfl
            have h128 := hJ.vals 6 dd128.1 (fun c hc => by have hc : none = some c := hc; cases hc)
            rw [hT] at h128
            rw [show f 6 = .int .i64 p from h128] at q128
            clear h128
            clear dd128
            have hord : ∀ x ∈ ([(20, 9), (21, 19)] : List (Nat × Nat)), x.1 = 7 → listed.getD x.2 false = true := (by intro x hx he; simp only [List.mem_cons, List.not_mem_nil, or_false] at hx; rcases hx with rfl | rfl; all_goals first | (exact absurd he (by decide)) | assumption)
            rw [Array.getD_eq_getD_getElem?] at q128
            clear hsz hdep hout hlat
            go_simp
            exact hK _ _ (hJ.plain HTY (by rw [hls]; decide) (Ex.refl _) (by rw [hT]; first | rfl | exact congrArg (Value.int .i64) (by omega) | exact congrArg (Value.int .i64) (by rw [IntKind.wrap_i64]; omega)) hord)
          · rw [if_pos (by rfl)]
            intro K hK
            have dd127 := hdep ⟨5, .data⟩ (by simp) rfl
            have q127 := dd127.2 _ rfl _ rfl
            have h127 := hJ.vals 5 dd127.1 (fun c hc => by have hc : none = some c := hc; cases hc)
            rw [hT] at h127
            rw [show f 5 = .slice (some ⟨am, om, none⟩) N capm from h127] at q127
            clear h127
            clear dd127
            have dd129 := hdep ⟨7, .data⟩ (by simp) rfl
            have q129 := dd129.2 _ rfl _ rfl
            have h129 := hJ.vals 7 dd129.1 (fun c hc => by have hc : none = some c := hc; cases hc)
            rw [hT] at h129
            rw [show f 7 = .int .i64 ((p + 1 : Nat) : Int) from h129] at q129
            clear h129
            clear dd129
            have hord : ∀ x ∈ ([(20, 9), (21, 19)] : List (Nat × Nat)), x.1 = 8 → listed.getD x.2 false = true := (by intro x hx he; simp only [List.mem_cons, List.not_mem_nil, or_false] at hx; rcases hx with rfl | rfl; all_goals first | (exact absurd he (by decide)) | assumption)
            refine wp_sl_l 78 (.tmp 127) (.tmp 129) rfl Try.slLS 4 Try.szLS _ _ _ (p + 1) q127 q129 (by omega) (hK _ _ ?_)
            exact hJ.plain HTY (by rw [hls]; decide) (Ex.refl _) (by rw [hT]; exact ES2.out) hord
          · rw [if_pos (by rfl)]
            intro K hK
            have dd126 := hdep ⟨4, .data⟩ (by simp) rfl
            have q126 := dd126.2 _ rfl _ rfl
            have h126 := hJ.vals 4 dd126.1 (fun c hc => by have hc : some 9 = some c := hc; cases hc; exact hun)
            rw [hT] at h126
            have h126 : wr2.ownsRow w2.heap.size 70 4 (f 4) (p) ((mC ls).take (p * 4)) := h126
            obtain ⟨v126, e126⟩ : ∃ v, v = f 4 := ⟨_, rfl⟩
            rw [← e126] at h126 q126
            clear e126
            clear dd126
            have dd130 := hdep ⟨8, .data⟩ (by simp) rfl
            have q130 := dd130.2 _ rfl _ rfl
            have h130 := hJ.vals 8 dd130.1 (fun c hc => by have hc : none = some c := hc; cases hc)
            rw [hT] at h130
            rw [show f 8 = .slice ad2 (N - (p + 1)) (capm - (p + 1)) from h130] at q130
            clear h130
            clear dd130
            have hord : ∀ x ∈ ([(20, 9), (21, 19)] : List (Nat × Nat)), x.1 = 9 → listed.getD x.2 false = true := (by intro x hx he; simp only [List.mem_cons, List.not_mem_nil, or_false] at hx; rcases hx with rfl | rfl; all_goals first | (exact absurd he (by decide)) | assumption)
            refine wp_rd (.tmp 126) (.tmp 130) 78 70 zeroLt.V 4 48 rfl Try.underlying78 Try.infoLt rfl (by decide) w2.heap.size _ _ _ q126 h126 hJ.lo ad2 (N - (p + 1)) (capm - (p + 1)) _ q130 (RD2.out.ext hJ.ext.below) (by omega) EN2.out (fun u hu => mC_one ls u (List.mem_of_mem_drop hu)) (by omega) (by omega) (fun v' w' r1 r2 => hK _ _ (hJ.next HTY (by rw [hls]; decide) [70] (by decide) (by decide) r2 (by rw [hT]; exact r1) ?_ hord))
            intro j hj hin hl
            have hm := mem_tys (by decide) hin
            rw [show (List.range (List.length ([70, 0, 0, 0, 70, 0, 0, 0, 0, 70, 4, 0, 0, 0, 4, 0, 0, 0, 0, 4, 70, 4] : List Nat))).filter (fun j => List.getD ([70, 0, 0, 0, 70, 0, 0, 0, 0, 70, 4, 0, 0, 0, 4, 0, 0, 0, 0, 4, 70, 4] : List Nat) j 0 == 70) = [0, 4, 9, 20] from by decide] at hm
            simp only [List.mem_cons, List.not_mem_nil, or_false] at hm
            rcases hm with rfl | rfl | rfl | rfl
            · exact ⟨4, rfl, Or.inr (hdep ⟨4, .data⟩ (by simp) rfl).1⟩
            · exact ⟨9, rfl, Or.inl rfl⟩
            · exact absurd rfl hj
            · exact absurd (hJ.ord (20, 9) (by simp) hl) (by rw [hun]; decide)
          · rw [if_pos (by rfl)]
            intro K hK
            have hord : ∀ x ∈ ([(20, 9), (21, 19)] : List (Nat × Nat)), x.1 = 10 → listed.getD x.2 false = true := (by intro x hx he; simp only [List.mem_cons, List.not_mem_nil, or_false] at hx; rcases hx with rfl | rfl; all_goals first | (exact absurd he (by decide)) | assumption)
            clear hsz hdep hout hlat
            go_simp
            exact hK _ _ (hJ.plain HTY (by rw [hls]; decide) (Ex.alloc _ _) (by rw [hT]; exact ⟨_, rfl, hJ.lo, Bk.new rfl _ _⟩) hord)
          · rw [if_pos (by rfl)]
            intro K hK
            have q7 := hlat 7 21 _ rfl rfl ⟨⟨11, .phase⟩, by simp, rfl, rfl⟩
            have hord : ∀ x ∈ ([(20, 9), (21, 19)] : List (Nat × Nat)), x.1 = 11 → listed.getD x.2 false = true := (by intro x hx he; simp only [List.mem_cons, List.not_mem_nil, or_false] at hx; rcases hx with rfl | rfl; all_goals first | (exact absurd he (by decide)) | assumption)
            refine wp_mv _ rfl (hK _ _ ?_)
            rw [show a.eval (.tmp 7) = .slice (some ⟨ah, oh, none⟩) N caph from q7]
            exact hJ.plain HTY (by rw [hls]; decide) (Ex.refl _) (by rw [hT]; rfl) hord
          · rw [if_pos (by rfl)]
            intro K hK
            have q10 := hout 10 (outB_spec (by kernel_rfl))
            have hord : ∀ x ∈ ([(20, 9), (21, 19)] : List (Nat × Nat)), x.1 = 12 → listed.getD x.2 false = true := (by intro x hx he; simp only [List.mem_cons, List.not_mem_nil, or_false] at hx; rcases hx with rfl | rfl; all_goals first | (exact absurd he (by decide)) | assumption)
            refine wp_mv _ rfl (hK _ _ ?_)
            rw [show a.eval (.tmp 10) = .int .i64 p from q10]
            exact hJ.plain HTY (by rw [hls]; decide) (Ex.refl _) (by rw [hT]; rfl) hord
          · rw [if_pos (by rfl)]
            intro K hK
            have dd133 := hdep ⟨11, .data⟩ (by simp) rfl
            have q133 := dd133.2 _ rfl _ rfl
            have h133 := hJ.vals 11 dd133.1 (fun c hc => by have hc : none = some c := hc; cases hc)
            rw [hT] at h133
            rw [show f 11 = .slice (some ⟨ah, oh, none⟩) N caph from h133] at q133
            clear h133
            clear dd133
            have dd134 := hdep ⟨12, .data⟩ (by simp) rfl
            have q134 := dd134.2 _ rfl _ rfl
            have h134 := hJ.vals 12 dd134.1 (fun c hc => by have hc : none = some c := hc; cases hc)
            rw [hT] at h134
            rw [show f 12 = .int .i64 p from h134] at q134
            clear h134
            clear dd134
            have hord : ∀ x ∈ ([(20, 9), (21, 19)] : List (Nat × Nat)), x.1 = 13 → listed.getD x.2 false = true := (by intro x hx he; simp only [List.mem_cons, List.not_mem_nil, or_false] at hx; rcases hx with rfl | rfl; all_goals first | (exact absurd he (by decide)) | assumption)
            refine wp_sl_h 85 (.tmp 133) (.tmp 134) rfl Try.slBS 1 Try.szBS _ _ _ p q133 q134 (by omega) (hK _ _ ?_)
            exact hJ.plain HTY (by rw [hls]; decide) (Ex.refl _) (by rw [hT]; exact ES3.out) hord
          · rw [if_pos (by rfl)]
            intro K hK
            have dd132 := hdep ⟨10, .data⟩ (by simp) rfl
            have q132 := dd132.2 _ rfl _ rfl
            have h132 := hJ.vals 10 dd132.1 (fun c hc => by have hc : some 14 = some c := hc; cases hc; exact hun)
            rw [hT] at h132
            have h132 : Emp w2.heap.size wr2 4 (f 10) := h132
            clear dd132
            have dd135 := hdep ⟨13, .data⟩ (by simp) rfl
            have q135 := dd135.2 _ rfl _ rfl
            have h135 := hJ.vals 13 dd135.1 (fun c hc => by have hc : none = some c := hc; cases hc)
            rw [hT] at h135
            rw [show f 13 = .slice ad3 p caph from h135] at q135
            clear h135
            clear dd135
            have hord : ∀ x ∈ ([(20, 9), (21, 19)] : List (Nat × Nat)), x.1 = 14 → listed.getD x.2 false = true := (by intro x hx he; simp only [List.mem_cons, List.not_mem_nil, or_false] at hx; rcases hx with rfl | rfl; all_goals first | (exact absurd he (by decide)) | assumption)
            exact wp_rd0 (.tmp 132) (.tmp 135) 85 4 (.bool false) 1 1 rfl Try.underlying85 Try.infoBool rfl (by decide) w2.heap.size _ q132 h132 hJ.lo ad3 (p) (caph) _ q135 (RD3.out.ext hJ.ext.below) (by omega) EN3.out (fun u hu => hC_one ls u (List.mem_of_mem_take hu)) (by omega) (by omega) (fun v' w' r1 r2 => hK _ _ (hJ.plain HTY (by rw [hls]; decide) r2 (by rw [hT]; exact r1) hord))
          · rw [if_pos (by rfl)]
            intro K hK
            have q7 := hlat 7 21 _ rfl rfl ⟨⟨15, .phase⟩, by simp, rfl, rfl⟩
            have hord : ∀ x ∈ ([(20, 9), (21, 19)] : List (Nat × Nat)), x.1 = 15 → listed.getD x.2 false = true := (by intro x hx he; simp only [List.mem_cons, List.not_mem_nil, or_false] at hx; rcases hx with rfl | rfl; all_goals first | (exact absurd he (by decide)) | assumption)
            refine wp_mv _ rfl (hK _ _ ?_)
            rw [show a.eval (.tmp 7) = .slice (some ⟨ah, oh, none⟩) N caph from q7]
            exact hJ.plain HTY (by rw [hls]; decide) (Ex.refl _) (by rw [hT]; rfl) hord
          · rw [if_pos (by rfl)]
            intro K hK
            have q10 := hout 10 (outB_spec (by kernel_rfl))
            have hord : ∀ x ∈ ([(20, 9), (21, 19)] : List (Nat × Nat)), x.1 = 16 → listed.getD x.2 false = true := (by intro x hx he; simp only [List.mem_cons, List.not_mem_nil, or_false] at hx; rcases hx with rfl | rfl; all_goals first | (exact absurd he (by decide)) | assumption)
            refine wp_mv _ rfl (hK _ _ ?_)
            rw [show a.eval (.tmp 10) = .int .i64 p from q10]
            exact hJ.plain HTY (by rw [hls]; decide) (Ex.refl _) (by rw [hT]; rfl) hord
          · rw [if_pos (by rfl)]
            intro K hK
            have dd138 := hdep ⟨16, .data⟩ (by simp) rfl
            have q138 := dd138.2 _ rfl _ rfl
            have h138 := hJ.vals 16 dd138.1 (fun c hc => by have hc : none = some c := hc; cases hc)
            rw [hT] at h138
            rw [show f 16 = .int .i64 p from h138] at q138
            clear h138
            clear dd138
            have hord : ∀ x ∈ ([(20, 9), (21, 19)] : List (Nat × Nat)), x.1 = 17 → listed.getD x.2 false = true := (by intro x hx he; simp only [List.mem_cons, List.not_mem_nil, or_false] at hx; rcases hx with rfl | rfl; all_goals first | (exact absurd he (by decide)) | assumption)
            rw [Array.getD_eq_getD_getElem?] at q138
            clear hsz hdep hout hlat
            go_simp
            exact hK _ _ (hJ.plain HTY (by rw [hls]; decide) (Ex.refl _) (by rw [hT]; first | rfl | exact congrArg (Value.int .i64) (by omega) | exact congrArg (Value.int .i64) (by rw [IntKind.wrap_i64]; omega)) hord)
          · rw [if_pos (by rfl)]
            intro K hK
            have dd137 := hdep ⟨15, .data⟩ (by simp) rfl
            have q137 := dd137.2 _ rfl _ rfl
            have h137 := hJ.vals 15 dd137.1 (fun c hc => by have hc : none = some c := hc; cases hc)
            rw [hT] at h137
            rw [show f 15 = .slice (some ⟨ah, oh, none⟩) N caph from h137] at q137
            clear h137
            clear dd137
            have dd139 := hdep ⟨17, .data⟩ (by simp) rfl
            have q139 := dd139.2 _ rfl _ rfl
            have h139 := hJ.vals 17 dd139.1 (fun c hc => by have hc : none = some c := hc; cases hc)
            rw [hT] at h139
            rw [show f 17 = .int .i64 ((p + 1 : Nat) : Int) from h139] at q139
            clear h139
            clear dd139
            have hord : ∀ x ∈ ([(20, 9), (21, 19)] : List (Nat × Nat)), x.1 = 18 → listed.getD x.2 false = true := (by intro x hx he; simp only [List.mem_cons, List.not_mem_nil, or_false] at hx; rcases hx with rfl | rfl; all_goals first | (exact absurd he (by decide)) | assumption)
            refine wp_sl_l 85 (.tmp 137) (.tmp 139) rfl Try.slBS 1 Try.szBS _ _ _ (p + 1) q137 q139 (by omega) (hK _ _ ?_)
            exact hJ.plain HTY (by rw [hls]; decide) (Ex.refl _) (by rw [hT]; exact ES4.out) hord
          · rw [if_pos (by rfl)]
            intro K hK
            have dd136 := hdep ⟨14, .data⟩ (by simp) rfl
            have q136 := dd136.2 _ rfl _ rfl
            have h136 := hJ.vals 14 dd136.1 (fun c hc => by have hc : some 19 = some c := hc; cases hc; exact hun)
            rw [hT] at h136
            have h136 : wr2.ownsRow w2.heap.size 4 1 (f 14) (p) ((hC ls).take (p * 1)) := h136
            obtain ⟨v136, e136⟩ : ∃ v, v = f 14 := ⟨_, rfl⟩
            rw [← e136] at h136 q136
            clear e136
            clear dd136
            have dd140 := hdep ⟨18, .data⟩ (by simp) rfl
            have q140 := dd140.2 _ rfl _ rfl
            have h140 := hJ.vals 18 dd140.1 (fun c hc => by have hc : none = some c := hc; cases hc)
            rw [hT] at h140
            rw [show f 18 = .slice ad4 (N - (p + 1)) (caph - (p + 1)) from h140] at q140
            clear h140
            clear dd140
            have hord : ∀ x ∈ ([(20, 9), (21, 19)] : List (Nat × Nat)), x.1 = 19 → listed.getD x.2 false = true := (by intro x hx he; simp only [List.mem_cons, List.not_mem_nil, or_false] at hx; rcases hx with rfl | rfl; all_goals first | (exact absurd he (by decide)) | assumption)
            refine wp_rd (.tmp 136) (.tmp 140) 85 4 (.bool false) 1 1 rfl Try.underlying85 Try.infoBool rfl (by decide) w2.heap.size _ _ _ q136 h136 hJ.lo ad4 (N - (p + 1)) (caph - (p + 1)) _ q140 (RD4.out.ext hJ.ext.below) (by omega) EN4.out (fun u hu => hC_one ls u (List.mem_of_mem_drop hu)) (by omega) (by omega) (fun v' w' r1 r2 => hK _ _ (hJ.next HTY (by rw [hls]; decide) [4] (by decide) (by decide) r2 (by rw [hT]; exact r1) ?_ hord))
            intro j hj hin hl
            have hm := mem_tys (by decide) hin
            rw [show (List.range (List.length ([70, 0, 0, 0, 70, 0, 0, 0, 0, 70, 4, 0, 0, 0, 4, 0, 0, 0, 0, 4, 70, 4] : List Nat))).filter (fun j => List.getD ([70, 0, 0, 0, 70, 0, 0, 0, 0, 70, 4, 0, 0, 0, 4, 0, 0, 0, 0, 4, 70, 4] : List Nat) j 0 == 4) = [10, 14, 19, 21] from by decide] at hm
            simp only [List.mem_cons, List.not_mem_nil, or_false] at hm
            rcases hm with rfl | rfl | rfl | rfl
            · exact ⟨14, rfl, Or.inr (hdep ⟨14, .data⟩ (by simp) rfl).1⟩
            · exact ⟨19, rfl, Or.inl rfl⟩
            · exact absurd rfl hj
            · exact absurd (hJ.ord (21, 19) (by simp) hl) (by rw [hun]; decide)
          · rw [if_pos (by rfl)]
            intro K hK
            have dd131 := hdep ⟨9, .data⟩ (by simp) rfl
            have q131 := dd131.2 _ rfl _ rfl
            have h131 := hJ.vals 9 dd131.1 (fun c hc => by have hc : none = some c := hc; cases hc)
            rw [hT] at h131
            have h131 : wr2.ownsRow w2.heap.size 70 4 (f 9) (p + (N - (p + 1))) ((mC ls).take (p * 4) ++ (mC ls).drop ((p + 1) * 4)) := h131
            obtain ⟨v131, e131⟩ : ∃ v, v = f 9 := ⟨_, rfl⟩
            rw [← e131] at h131 q131
            clear e131
            clear dd131
            have hl9 := (hdep ⟨9, .data⟩ (by simp) rfl).1
            have hord : ∀ x ∈ ([(20, 9), (21, 19)] : List (Nat × Nat)), x.1 = 20 → listed.getD x.2 false = true := (by intro x hx he; simp only [List.mem_cons, List.not_mem_nil, or_false] at hx; rcases hx with rfl | rfl; all_goals first | (exact absurd he (by decide)) | assumption)
            rw [Array.getD_eq_getD_getElem?] at q131
            clear hsz hdep hout hlat
            go_simp
            exact hK _ _ (hJ.plain HTY (by rw [hls]; decide) (Ex.refl _) (by rw [hT]; exact h131) hord)
          · rw [if_pos (by rfl)]
            intro K hK
            have dd141 := hdep ⟨19, .data⟩ (by simp) rfl
            have q141 := dd141.2 _ rfl _ rfl
            have h141 := hJ.vals 19 dd141.1 (fun c hc => by have hc : none = some c := hc; cases hc)
            rw [hT] at h141
            have h141 : wr2.ownsRow w2.heap.size 4 1 (f 19) (p + (N - (p + 1))) ((hC ls).take (p * 1) ++ (hC ls).drop ((p + 1) * 1)) := h141
            obtain ⟨v141, e141⟩ : ∃ v, v = f 19 := ⟨_, rfl⟩
            rw [← e141] at h141 q141
            clear e141
            clear dd141
            have hl19 := (hdep ⟨19, .data⟩ (by simp) rfl).1
            have hord : ∀ x ∈ ([(20, 9), (21, 19)] : List (Nat × Nat)), x.1 = 21 → listed.getD x.2 false = true := (by intro x hx he; simp only [List.mem_cons, List.not_mem_nil, or_false] at hx; rcases hx with rfl | rfl; all_goals first | (exact absurd he (by decide)) | assumption)
            rw [Array.getD_eq_getD_getElem?] at q141
            clear hsz hdep hout hlat
            go_simp
            exact hK _ _ (hJ.plain HTY (by rw [hls]; decide) (Ex.refl _) (by rw [hT]; exact h141) hord)
        · intro listed f wr2 hall hJ
          have o20 := hJ.vals 20 (hall 20 (by simp)) (fun c hc => by have hc : none = some c := hc; cases hc)
          rw [hT] at o20
          have o20 : wr2.ownsRow w2.heap.size 70 4 (f 20) (p + (N - (p + 1))) ((mC ls).take (p * 4) ++ (mC ls).drop ((p + 1) * 4)) := o20
          have o21 := hJ.vals 21 (hall 21 (by simp)) (fun c hc => by have hc : none = some c := hc; cases hc)
          rw [hT] at o21
          have o21 : wr2.ownsRow w2.heap.size 4 1 (f 21) (p + (N - (p + 1))) ((hC ls).take (p * 1) ++ (hC ls).drop ((p + 1) * 1)) := o21
          have xw : Ex w2 wr2 := hJ.ext.below
          simp only [putAll, Act.put, List.setIfInBounds_toArray, List.set_cons_zero, List.set_cons_succ, Nat.zero_add, Nat.reduceAdd]
          generalize f 20 = nm at o20 ⊢
          generalize f 21 = nh at o21 ⊢
          clear hJ hall hT HTY
          generalize f 0 = y0
          generalize f 1 = y1
          generalize f 2 = y2
          generalize f 3 = y3
          generalize f 4 = y4
          generalize f 5 = y5
          generalize f 6 = y6
          generalize f 7 = y7
          generalize f 8 = y8
          generalize f 9 = y9
          generalize f 10 = y10
          generalize f 11 = y11
          generalize f 12 = y12
          generalize f 13 = y13
          generalize f 14 = y14
          generalize f 15 = y15
          generalize f 16 = y16
          generalize f 17 = y17
          generalize f 18 = y18
          generalize f 19 = y19
          have hel : (ls.eraseIdx p).length = p + (N - (p + 1)) := by rw [List.length_eraseIdx_of_lt (by rw [← HN.out]; omega), ← HN.out]; omega
          replace P := Lib.hid (P.out.rows xw w2.heap.size P.out.ext.sz o20 o21 hel hel (mC_erase ls p) (hC_erase ls p) (fun x hx => Or.inl (List.mem_of_mem_eraseIdx hx)))
          rw [← ctO_erase] at P
          clear o20 o21 xw hel
          go_wp2_with (first | (with_reducible refine stop_load (t := 70) ?_) | (with_reducible refine stop_store (t := 70) ?_) | (with_reducible refine stop_load (t := 72) ?_) | (with_reducible refine stop_store (t := 72) ?_) | (with_reducible refine stop_build (t := 70) ?_))
          refine (same_st P.out).mono ?_
          rintro e wz ⟨rfl, xx⟩
          replace P := Lib.hid (P.out.ex xx)
          clear xx
          go_wp2_with (first | (with_reducible refine stop_load (t := 70) ?_) | (with_reducible refine stop_store (t := 70) ?_) | (with_reducible refine stop_load (t := 72) ?_) | (with_reducible refine stop_store (t := 72) ?_) | (with_reducible refine stop_build (t := 70) ?_))
          refine ⟨⟨_, _, k + 1, ls.eraseIdx p, ⟨by omega, P⟩, rfl, rfl, rfl, rfl, rfl, rfl, rfl, rfl, rfl⟩, by simp [p21M, intOf]; omega⟩
    · have HPX := Lib.hid hpx
      obtain ⟨ah, oh, hadh, hlh, hch⟩ := HBIN.out.2 (by omega)
      subst hadh
      have cb : w2.cell? ⟨ah, oh + p, none⟩ = some (.bool true) := by
        refine (Below.cell (p := ⟨ah, oh + p, none⟩) XW.out hlh).trans ((hch p hp).trans ?_)
        show some (Value.bool ((ls.map (·.1)).getD p false)) = _
        rw [List.getD_eq_getElem?_getD, List.getElem?_map, hpx]; rfl
      have HCB := Lib.hid cb
      have HLH := Lib.hid (Nat.lt_of_lt_of_le hlh XW.out.sz)
      clear hch hlh cb
      clear hpx
      go_wp2_with (first | (with_reducible refine stop_load (t := 70) ?_) | (with_reducible refine stop_store (t := 70) ?_) | (with_reducible refine stop_load (t := 72) ?_) | (with_reducible refine stop_store (t := 72) ?_) | (with_reducible refine stop_build (t := 70) ?_))
      have PB := P
      refine (take_held O (ctO ls) p z.ct w2 P.out.off HCX.out).mono ?_
      rintro e w4 ⟨x, rfl, hxc, hxn, hof, hft⟩
      replace P := Lib.hid (P.out.ft hft hof)
      clear hof hft
      have HXZ := Lib.hid hxc
      have HXN := Lib.hid hxn
      clear hxc hxn
      go_wp2_with (first | (with_reducible refine stop_load (t := 70) ?_) | (with_reducible refine stop_store (t := 70) ?_) | (with_reducible refine stop_load (t := 72) ?_) | (with_reducible refine stop_store (t := 72) ?_) | (with_reducible refine stop_build (t := 70) ?_))
      (with_reducible refine ⟨?_⟩); (with_reducible refine at_any ?_ ?_); (focus go_simp); refine fun K0 hK => st_lx _ _ w4.heap.size 70 Try.sizeLt x rfl rfl rfl HXN.out.1 (Bk.new rfl _ _) (by rfl) (fun w5 hd9 ho => hK _ _ ?_)
      clear hK
      have xx : Ex w4 w5 := ho.below w4.heap.size (Nat.le_refl _) w4 (Ex.alloc w4 _)
      replace P := Lib.hid (P.out.ex xx)
      replace HXN := Lib.hid (HXN.out.ext xx)
      obtain ⟨g, hg⟩ : ∃ g, g = w4.heap.size := ⟨_, rfl⟩
      rw [← hg] at hd9 ⊢
      have HG := Lib.hid hd9
      clear xx ho hd9 hg c0 c1
      obtain ⟨adh2, caph2, hhe, hbin5⟩ := P.out.bp (by have := HN.out; omega)
      rw [← HN.out] at hhe
      cases hhe
      obtain ⟨ah5, oh5, hadh5, hlh5, hch5⟩ := hbin5.2 (by have := HN.out; omega)
      cases hadh5
      have cb := hch5 p (by rw [← HN.out]; exact hp)
      rw [show (fun i => (ls.map (·.1)).getD i false) p = true from by show (ls.map (·.1)).getD p false = _; rw [List.getD_eq_getElem?_getD, List.getElem?_map, HPX.out]; rfl] at cb
      clear hbin5 hlh5 hch5
      obtain ⟨adm2, capm2, hme, hlp⟩ := P.out.lp
      rw [← HN.out] at hme
      cases hme
      obtain ⟨am, om, hadm, hlm, hrm⟩ := hlp.read (by rw [List.length_map, ← HN.out]; omega)
      subst hadm
      have HZR := Lib.hid (hrm p z (by rw [List.getElem?_map, HPX.out]; rfl))
      have HAM := Lib.hid hlm
      have HZB := Lib.hid (P.out.lets p _ HPX.out)
      clear hlp hlm hrm
      go_wp2_with fail
      obtain ⟨T, hT⟩ : ∃ T : List (Rv w5.heap.size), T = [.is (.bool false), .is (.bool false), .is (.bool false), .is (.bool false), .is (.bool false), .is (.bool false), .any, .any, .any, .any, .any, .any, .any, .is (.bool false), .is (.bool false), .is (.bool false), .is (.bool false), .is (.bool true), .is (.bool true), .is (x.V), .is (zeroLt.V), .is (.bool true), .is (.bool false), .is (.bool false), .is (.bool false)] := ⟨_, rfl⟩
      have HTY : T.map Rv.ty = ([0, 0, 0, 0, 0, 0, 0, 0, 0, 0, 0, 0, 0, 0, 0, 0, 0, 0, 0, 0, 0, 0, 0, 0, 0] : List Nat) := by rw [hT]; rfl
      refine wp_region_gen (JR w5.heap.size w5 [0] T ([0, 0, 0, 0, 0, 0, 0, 0, 0, 0, 0, 0, 0, 0, 0, 0, 0, 0, 0, 0, 0, 0, 0, 0, 0] : List Nat) ([none, none, none, none, none, none, none, none, none, none, none, none, none, none, none, none, none, none, none, none, none, none, none, none, none] : List (Option Nat)) ([] : List (Nat × Nat))) (by kernel_rfl) (by kernel_rfl) (by kernel_rfl) (fitB_spec (by kernel_rfl)) (fun listed f h => JR.start (Nat.le_refl _) listed f h) ?_ ?_
      · intro i o ho
        have hi : i < 25 := (Array.getElem?_eq_some_iff.1 ho).1
        have hi' : i = 0 ∨ i = 1 ∨ i = 2 ∨ i = 3 ∨ i = 4 ∨ i = 5 ∨ i = 6 ∨ i = 7 ∨ i = 8 ∨ i = 9 ∨ i = 10 ∨ i = 11 ∨ i = 12 ∨ i = 13 ∨ i = 14 ∨ i = 15 ∨ i = 16 ∨ i = 17 ∨ i = 18 ∨ i = 19 ∨ i = 20 ∨ i = 21 ∨ i = 22 ∨ i = 23 ∨ i = 24 := by omega
        clear hi
        rcases hi' with rfl | rfl | rfl | rfl | rfl | rfl | rfl | rfl | rfl | rfl | rfl | rfl | rfl | rfl | rfl | rfl | rfl | rfl | rfl | rfl | rfl | rfl | rfl | rfl | rfl
        all_goals (simp only [List.getElem?_toArray, List.getElem?_cons_zero, List.getElem?_cons_succ, Option.some.injEq] at ho; subst ho; intro listed f a w2 hJ hsz hls hun hdep hout hlat)
        · rw [if_pos (by rfl)]
          intro K hK
          have q13 := hout 13 (outB_spec (by kernel_rfl))
          have hord : ∀ x ∈ ([] : List (Nat × Nat)), x.1 = 0 → listed.getD x.2 false = true := by simp
          refine wp_mv _ rfl (hK _ _ ?_)
          rw [show a.eval (.tmp 13) = .bool false from q13]
          exact hJ.plain HTY (by rw [hls]; decide) (Ex.refl _) (by rw [hT]; rfl) hord
        · rw [if_pos (by rfl)]
          intro K hK
          have q14 := hout 14 (outB_spec (by kernel_rfl))
          have hord : ∀ x ∈ ([] : List (Nat × Nat)), x.1 = 1 → listed.getD x.2 false = true := by simp
          refine wp_mv _ rfl (hK _ _ ?_)
          rw [show a.eval (.tmp 14) = .bool false from q14]
          exact hJ.plain HTY (by rw [hls]; decide) (Ex.refl _) (by rw [hT]; rfl) hord
        · rw [if_pos (by rfl)]
          intro K hK
          have dd96 := hdep ⟨0, .data⟩ (by simp) rfl
          have q96 := dd96.2 _ rfl _ rfl
          have h96 := hJ.vals 0 dd96.1 (fun c hc => by have hc : none = some c := hc; cases hc)
          rw [hT] at h96
          rw [show f 0 = .bool false from h96] at q96
          clear h96
          clear dd96
          have dd97 := hdep ⟨1, .data⟩ (by simp) rfl
          have q97 := dd97.2 _ rfl _ rfl
          have h97 := hJ.vals 1 dd97.1 (fun c hc => by have hc : none = some c := hc; cases hc)
          rw [hT] at h97
          rw [show f 1 = .bool false from h97] at q97
          clear h97
          clear dd97
          have hord : ∀ x ∈ ([] : List (Nat × Nat)), x.1 = 2 → listed.getD x.2 false = true := by simp
          rw [Array.getD_eq_getD_getElem?] at q96
          rw [Array.getD_eq_getD_getElem?] at q97
          clear hsz hdep hout hlat
          go_simp
          exact hK _ _ (hJ.plain HTY (by rw [hls]; decide) (Ex.refl _) (by rw [hT]; first | rfl | exact congrArg (Value.int .i64) (by omega) | exact congrArg (Value.int .i64) (by rw [IntKind.wrap_i64]; omega)) hord)
        · rw [if_pos (by rfl)]
          intro K hK
          have dd98 := hdep ⟨2, .data⟩ (by simp) rfl
          have q98 := dd98.2 _ rfl _ rfl
          have h98 := hJ.vals 2 dd98.1 (fun c hc => by have hc : none = some c := hc; cases hc)
          rw [hT] at h98
          rw [show f 2 = .bool false from h98] at q98
          clear h98
          clear dd98
          have hord : ∀ x ∈ ([] : List (Nat × Nat)), x.1 = 3 → listed.getD x.2 false = true := by simp
          refine wp_mv _ rfl (hK _ _ ?_)
          rw [show a.eval (.tmp 98) = .bool false from q98]
          exact hJ.plain HTY (by rw [hls]; decide) (Ex.refl _) (by rw [hT]; rfl) hord
        · have ddg := hdep ⟨3, .guard⟩ (by simp) rfl
          have kg := ddg.2 _ rfl _ rfl
          have hg := hJ.vals 3 ddg.1 (fun c hc => by have hc : none = some c := hc; cases hc)
          rw [hT] at hg
          rw [show f 3 = .bool false from hg] at kg
          clear hg ddg
          rw [if_pos (wanted_of rfl rfl rfl kg)]
          clear kg
          intro K hK
          have q13 := hout 13 (outB_spec (by kernel_rfl))
          have hord : ∀ x ∈ ([] : List (Nat × Nat)), x.1 = 4 → listed.getD x.2 false = true := by simp
          refine wp_mv _ rfl (hK _ _ ?_)
          rw [show a.eval (.tmp 13) = .bool false from q13]
          exact hJ.plain HTY (by rw [hls]; decide) (Ex.refl _) (by rw [hT]; rfl) hord
        · have ddg := hdep ⟨3, .guard⟩ (by simp) rfl
          have kg := ddg.2 _ rfl _ rfl
          have hg := hJ.vals 3 ddg.1 (fun c hc => by have hc : none = some c := hc; cases hc)
          rw [hT] at hg
          rw [show f 3 = .bool false from hg] at kg
          clear hg ddg
          rw [if_pos (wanted_of rfl rfl rfl kg)]
          clear kg
          intro K hK
          have dd100 := hdep ⟨4, .data⟩ (by simp) rfl
          have q100 := dd100.2 _ rfl _ rfl
          have h100 := hJ.vals 4 dd100.1 (fun c hc => by have hc : none = some c := hc; cases hc)
          rw [hT] at h100
          rw [show f 4 = .bool false from h100] at q100
          clear h100
          clear dd100
          have hord : ∀ x ∈ ([] : List (Nat × Nat)), x.1 = 5 → listed.getD x.2 false = true := by simp
          refine wp_mv _ rfl (hK _ _ ?_)
          rw [show a.eval (.tmp 100) = .bool false from q100]
          exact hJ.plain HTY (by rw [hls]; decide) (Ex.refl _) (by rw [hT]; rfl) hord
        · have ddg := hdep ⟨5, .guard⟩ (by simp) rfl
          have kg := ddg.2 _ rfl _ rfl
          have hg := hJ.vals 5 ddg.1 (fun c hc => by have hc : none = some c := hc; cases hc)
          rw [hT] at hg
          rw [show f 5 = .bool false from hg] at kg
          clear hg ddg
          have hord : ∀ x ∈ ([] : List (Nat × Nat)), x.1 = 6 → listed.getD x.2 false = true := by simp
          rw [if_neg (not_wanted rfl rfl rfl kg (by decide))]
          exact hJ.plain HTY (by rw [hls]; decide) (Ex.refl _) (by rw [hT]; exact trivial) hord
        · have ddg := hdep ⟨5, .guard⟩ (by simp) rfl
          have kg := ddg.2 _ rfl _ rfl
          have hg := hJ.vals 5 ddg.1 (fun c hc => by have hc : none = some c := hc; cases hc)
          rw [hT] at hg
          rw [show f 5 = .bool false from hg] at kg
          clear hg ddg
          have hord : ∀ x ∈ ([] : List (Nat × Nat)), x.1 = 7 → listed.getD x.2 false = true := by simp
          rw [if_neg (not_wanted rfl rfl rfl kg (by decide))]
          exact hJ.plain HTY (by rw [hls]; decide) (Ex.refl _) (by rw [hT]; exact trivial) hord
        · have ddg := hdep ⟨5, .guard⟩ (by simp) rfl
          have kg := ddg.2 _ rfl _ rfl
          have hg := hJ.vals 5 ddg.1 (fun c hc => by have hc : none = some c := hc; cases hc)
          rw [hT] at hg
          rw [show f 5 = .bool false from hg] at kg
          clear hg ddg
          have hord : ∀ x ∈ ([] : List (Nat × Nat)), x.1 = 8 → listed.getD x.2 false = true := by simp
          rw [if_neg (not_wanted rfl rfl rfl kg (by decide))]
          exact hJ.plain HTY (by rw [hls]; decide) (Ex.refl _) (by rw [hT]; exact trivial) hord
        · have ddg := hdep ⟨5, .guard⟩ (by simp) rfl
          have kg := ddg.2 _ rfl _ rfl
          have hg := hJ.vals 5 ddg.1 (fun c hc => by have hc : none = some c := hc; cases hc)
          rw [hT] at hg
          rw [show f 5 = .bool false from hg] at kg
          clear hg ddg
          have hord : ∀ x ∈ ([] : List (Nat × Nat)), x.1 = 9 → listed.getD x.2 false = true := by simp
          rw [if_neg (not_wanted rfl rfl rfl kg (by decide))]
          exact hJ.plain HTY (by rw [hls]; decide) (Ex.refl _) (by rw [hT]; exact trivial) hord
        · have ddg := hdep ⟨5, .guard⟩ (by simp) rfl
          have kg := ddg.2 _ rfl _ rfl
          have hg := hJ.vals 5 ddg.1 (fun c hc => by have hc : none = some c := hc; cases hc)
          rw [hT] at hg
          rw [show f 5 = .bool false from hg] at kg
          clear hg ddg
          have hord : ∀ x ∈ ([] : List (Nat × Nat)), x.1 = 10 → listed.getD x.2 false = true := by simp
          rw [if_neg (not_wanted rfl rfl rfl kg (by decide))]
          exact hJ.plain HTY (by rw [hls]; decide) (Ex.refl _) (by rw [hT]; exact trivial) hord
        · have ddg := hdep ⟨5, .guard⟩ (by simp) rfl
          have kg := ddg.2 _ rfl _ rfl
          have hg := hJ.vals 5 ddg.1 (fun c hc => by have hc : none = some c := hc; cases hc)
          rw [hT] at hg
          rw [show f 5 = .bool false from hg] at kg
          clear hg ddg
          have hord : ∀ x ∈ ([] : List (Nat × Nat)), x.1 = 11 → listed.getD x.2 false = true := by simp
          rw [if_neg (not_wanted rfl rfl rfl kg (by decide))]
          exact hJ.plain HTY (by rw [hls]; decide) (Ex.refl _) (by rw [hT]; exact trivial) hord
        · have ddg := hdep ⟨5, .guard⟩ (by simp) rfl
          have kg := ddg.2 _ rfl _ rfl
          have hg := hJ.vals 5 ddg.1 (fun c hc => by have hc : none = some c := hc; cases hc)
          rw [hT] at hg
          rw [show f 5 = .bool false from hg] at kg
          clear hg ddg
          have hord : ∀ x ∈ ([] : List (Nat × Nat)), x.1 = 12 → listed.getD x.2 false = true := by simp
          rw [if_neg (not_wanted rfl rfl rfl kg (by decide))]
          exact hJ.plain HTY (by rw [hls]; decide) (Ex.refl _) (by rw [hT]; exact trivial) hord
        · have ddg := hdep ⟨3, .guard⟩ (by simp) rfl
          have kg := ddg.2 _ rfl _ rfl
          have hg := hJ.vals 3 ddg.1 (fun c hc => by have hc : none = some c := hc; cases hc)
          rw [hT] at hg
          rw [show f 3 = .bool false from hg] at kg
          clear hg ddg
          rw [if_pos (wanted_of rfl rfl rfl kg)]
          clear kg
          intro K hK
          have dd101 := hdep ⟨5, .data⟩ (by simp) rfl
          have q101 := dd101.2 _ rfl _ rfl
          have h101 := hJ.vals 5 dd101.1 (fun c hc => by have hc : none = some c := hc; cases hc)
          rw [hT] at h101
          rw [show f 5 = .bool false from h101] at q101
          clear h101
          clear dd101
          have dd108 := hdep ⟨12, .data⟩ (by simp) rfl
          have q108 := dd108.2 _ rfl _ rfl
          have hord : ∀ x ∈ ([] : List (Nat × Nat)), x.1 = 13 → listed.getD x.2 false = true := by simp
          rw [Array.getD_eq_getD_getElem?] at q101
          rw [Array.getD_eq_getD_getElem?] at q108
          clear hsz hdep hout hlat
          go_simp
          exact hK _ _ (hJ.plain HTY (by rw [hls]; decide) (Ex.refl _) (by rw [hT]; first | rfl | exact congrArg (Value.int .i64) (by omega) | exact congrArg (Value.int .i64) (by rw [IntKind.wrap_i64]; omega)) hord)
        · rw [if_pos (by rfl)]
          intro K hK
          have dd99 := hdep ⟨3, .data⟩ (by simp) rfl
          have q99 := dd99.2 _ rfl _ rfl
          have h99 := hJ.vals 3 dd99.1 (fun c hc => by have hc : none = some c := hc; cases hc)
          rw [hT] at h99
          rw [show f 3 = .bool false from h99] at q99
          clear h99
          clear dd99
          have dd109 := hdep ⟨13, .data⟩ (by simp) rfl
          have q109 := dd109.2 _ rfl _ rfl
          have h109 := hJ.vals 13 dd109.1 (fun c hc => by have hc : none = some c := hc; cases hc)
          rw [hT] at h109
          rw [show f 13 = .bool false from h109] at q109
          clear h109
          clear dd109
          have hord : ∀ x ∈ ([] : List (Nat × Nat)), x.1 = 14 → listed.getD x.2 false = true := by simp
          rw [Array.getD_eq_getD_getElem?] at q99
          rw [Array.getD_eq_getD_getElem?] at q109
          clear hsz hdep hout hlat
          go_simp
          exact hK _ _ (hJ.plain HTY (by rw [hls]; decide) (Ex.refl _) (by rw [hT]; first | rfl | exact congrArg (Value.int .i64) (by omega) | exact congrArg (Value.int .i64) (by rw [IntKind.wrap_i64]; omega)) hord)
        · rw [if_pos (by rfl)]
          intro K hK
          have dd110 := hdep ⟨14, .data⟩ (by simp) rfl
          have q110 := dd110.2 _ rfl _ rfl
          have h110 := hJ.vals 14 dd110.1 (fun c hc => by have hc : none = some c := hc; cases hc)
          rw [hT] at h110
          rw [show f 14 = .bool false from h110] at q110
          clear h110
          clear dd110
          have hord : ∀ x ∈ ([] : List (Nat × Nat)), x.1 = 15 → listed.getD x.2 false = true := by simp
          refine wp_mv _ rfl (hK _ _ ?_)
          rw [show a.eval (.tmp 110) = .bool false from q110]
          exact hJ.plain HTY (by rw [hls]; decide) (Ex.refl _) (by rw [hT]; rfl) hord
        · have ddg := hdep ⟨15, .guard⟩ (by simp) rfl
          have kg := ddg.2 _ rfl _ rfl
          have hg := hJ.vals 15 ddg.1 (fun c hc => by have hc : none = some c := hc; cases hc)
          rw [hT] at hg
          rw [show f 15 = .bool false from hg] at kg
          clear hg ddg
          rw [if_pos (wanted_of rfl rfl rfl kg)]
          clear kg
          intro K hK
          have q13 := hout 13 (outB_spec (by kernel_rfl))
          have hord : ∀ x ∈ ([] : List (Nat × Nat)), x.1 = 16 → listed.getD x.2 false = true := by simp
          refine wp_mv _ rfl (hK _ _ ?_)
          rw [show a.eval (.tmp 13) = .bool false from q13]
          exact hJ.plain HTY (by rw [hls]; decide) (Ex.refl _) (by rw [hT]; rfl) hord
        · have ddg := hdep ⟨15, .guard⟩ (by simp) rfl
          have kg := ddg.2 _ rfl _ rfl
          have hg := hJ.vals 15 ddg.1 (fun c hc => by have hc : none = some c := hc; cases hc)
          rw [hT] at hg
          rw [show f 15 = .bool false from hg] at kg
          clear hg ddg
          rw [if_pos (wanted_of rfl rfl rfl kg)]
          clear kg
          intro K hK
          have dd112 := hdep ⟨16, .data⟩ (by simp) rfl
          have q112 := dd112.2 _ rfl _ rfl
          have h112 := hJ.vals 16 dd112.1 (fun c hc => by have hc : none = some c := hc; cases hc)
          rw [hT] at h112
          rw [show f 16 = .bool false from h112] at q112
          clear h112
          clear dd112
          have hord : ∀ x ∈ ([] : List (Nat × Nat)), x.1 = 17 → listed.getD x.2 false = true := by simp
          rw [Array.getD_eq_getD_getElem?] at q112
          clear hsz hdep hout hlat
          go_simp
          exact hK _ _ (hJ.plain HTY (by rw [hls]; decide) (Ex.refl _) (by rw [hT]; first | rfl | exact congrArg (Value.int .i64) (by omega) | exact congrArg (Value.int .i64) (by rw [IntKind.wrap_i64]; omega)) hord)
        · have ddg := hdep ⟨15, .guard⟩ (by simp) rfl
          have kg := ddg.2 _ rfl _ rfl
          have hg := hJ.vals 15 ddg.1 (fun c hc => by have hc : none = some c := hc; cases hc)
          rw [hT] at hg
          rw [show f 15 = .bool false from hg] at kg
          clear hg ddg
          rw [if_pos (wanted_of rfl rfl rfl kg)]
          clear kg
          intro K hK
          have dd113 := hdep ⟨17, .data⟩ (by simp) rfl
          have q113 := dd113.2 _ rfl _ rfl
          have h113 := hJ.vals 17 dd113.1 (fun c hc => by have hc : none = some c := hc; cases hc)
          rw [hT] at h113
          rw [show f 17 = .bool true from h113] at q113
          clear h113
          clear dd113
          have hord : ∀ x ∈ ([] : List (Nat × Nat)), x.1 = 18 → listed.getD x.2 false = true := by simp
          refine wp_mv _ rfl (hK _ _ ?_)
          rw [show a.eval (.tmp 113) = .bool true from q113]
          exact hJ.plain HTY (by rw [hls]; decide) (Ex.refl _) (by rw [hT]; rfl) hord
        · have ddg := hdep ⟨18, .guard⟩ (by simp) rfl
          have kg := ddg.2 _ rfl _ rfl
          have hg := hJ.vals 18 ddg.1 (fun c hc => by have hc : none = some c := hc; cases hc)
          rw [hT] at hg
          rw [show f 18 = .bool true from hg] at kg
          clear hg ddg
          rw [if_pos (wanted_of rfl rfl rfl kg)]
          clear kg
          intro K hK
          have q12 := hout 12 (outB_spec (by kernel_rfl))
          have hord : ∀ x ∈ ([] : List (Nat × Nat)), x.1 = 19 → listed.getD x.2 false = true := by simp
          exact ld_lx (.tmp 12) g 70 x rfl q12 (HG.out.ext hJ.ext.below) (hK _ _ (hJ.plain HTY (by rw [hls]; decide) (Ex.refl _) (by rw [hT]; rfl) hord))
        · have ddg := hdep ⟨18, .guard⟩ (by simp) rfl
          have kg := ddg.2 _ rfl _ rfl
          have hg := hJ.vals 18 ddg.1 (fun c hc => by have hc : none = some c := hc; cases hc)
          rw [hT] at hg
          rw [show f 18 = .bool true from hg] at kg
          clear hg ddg
          rw [if_pos (wanted_of rfl rfl rfl kg)]
          clear kg
          intro K hK
          have hord : ∀ x ∈ ([] : List (Nat × Nat)), x.1 = 20 → listed.getD x.2 false = true := by simp
          exact wp_build _ _ rfl _ built_zl (hK _ _ (hJ.plain HTY (by rw [hls]; decide) (Ex.refl _) (by rw [hT]; rfl) hord))
        · have ddg := hdep ⟨18, .guard⟩ (by simp) rfl
          have kg := ddg.2 _ rfl _ rfl
          have hg := hJ.vals 18 ddg.1 (fun c hc => by have hc : none = some c := hc; cases hc)
          rw [hT] at hg
          rw [show f 18 = .bool true from hg] at kg
          clear hg ddg
          rw [if_pos (wanted_of rfl rfl rfl kg)]
          clear kg
          intro K hK
          have dd115 := hdep ⟨19, .data⟩ (by simp) rfl
          have q115 := dd115.2 _ rfl _ rfl
          have h115 := hJ.vals 19 dd115.1 (fun c hc => by have hc : none = some c := hc; cases hc)
          rw [hT] at h115
          rw [show f 19 = x.V from h115] at q115
          clear h115
          clear dd115
          have dd116 := hdep ⟨20, .data⟩ (by simp) rfl
          have q116 := dd116.2 _ rfl _ rfl
          have h116 := hJ.vals 20 dd116.1 (fun c hc => by have hc : none = some c := hc; cases hc)
          rw [hT] at h116
          rw [show f 20 = zeroLt.V from h116] at q116
          clear h116
          clear dd116
          have hord : ∀ x ∈ ([] : List (Nat × Nat)), x.1 = 21 → listed.getD x.2 false = true := by simp
          rw [Array.getD_eq_getD_getElem?] at q115
          rw [Array.getD_eq_getD_getElem?] at q116
          clear hsz hdep hout hlat
          go_simp
          refine (letter_same x zeroLt HXZ.out w2 HXN.out.1 zeroLt_ok (HXN.out.ext hJ.ext.below).2.1 (nilB_in _ _)).mono ?_
          rintro e w3 ⟨rfl, x3⟩
          exact hK _ _ (hJ.plain HTY (by rw [hls]; decide) x3 (by rw [hT]; rfl) hord)
        · have ddg := hdep ⟨18, .guard⟩ (by simp) rfl
          have kg := ddg.2 _ rfl _ rfl
          have hg := hJ.vals 18 ddg.1 (fun c hc => by have hc : none = some c := hc; cases hc)
          rw [hT] at hg
          rw [show f 18 = .bool true from hg] at kg
          clear hg ddg
          rw [if_pos (wanted_of rfl rfl rfl kg)]
          clear kg
          intro K hK
          have dd117 := hdep ⟨21, .data⟩ (by simp) rfl
          have q117 := dd117.2 _ rfl _ rfl
          have h117 := hJ.vals 21 dd117.1 (fun c hc => by have hc : none = some c := hc; cases hc)
          rw [hT] at h117
          rw [show f 21 = .bool true from h117] at q117
          clear h117
          clear dd117
          have hord : ∀ x ∈ ([] : List (Nat × Nat)), x.1 = 22 → listed.getD x.2 false = true := by simp
          rw [Array.getD_eq_getD_getElem?] at q117
          clear hsz hdep hout hlat
          go_simp
          exact hK _ _ (hJ.plain HTY (by rw [hls]; decide) (Ex.refl _) (by rw [hT]; first | rfl | exact congrArg (Value.int .i64) (by omega) | exact congrArg (Value.int .i64) (by rw [IntKind.wrap_i64]; omega)) hord)
        · have ddg := hdep ⟨15, .guard⟩ (by simp) rfl
          have kg := ddg.2 _ rfl _ rfl
          have hg := hJ.vals 15 ddg.1 (fun c hc => by have hc : none = some c := hc; cases hc)
          rw [hT] at hg
          rw [show f 15 = .bool false from hg] at kg
          clear hg ddg
          rw [if_pos (wanted_of rfl rfl rfl kg)]
          clear kg
          intro K hK
          have dd114 := hdep ⟨18, .data⟩ (by simp) rfl
          have q114 := dd114.2 _ rfl _ rfl
          have h114 := hJ.vals 18 dd114.1 (fun c hc => by have hc : none = some c := hc; cases hc)
          rw [hT] at h114
          rw [show f 18 = .bool true from h114] at q114
          clear h114
          clear dd114
          have dd118 := hdep ⟨22, .data⟩ (by simp) rfl
          have q118 := dd118.2 _ rfl _ rfl
          have h118 := hJ.vals 22 dd118.1 (fun c hc => by have hc : none = some c := hc; cases hc)
          rw [hT] at h118
          rw [show f 22 = .bool false from h118] at q118
          clear h118
          clear dd118
          have hord : ∀ x ∈ ([] : List (Nat × Nat)), x.1 = 23 → listed.getD x.2 false = true := by simp
          rw [Array.getD_eq_getD_getElem?] at q114
          rw [Array.getD_eq_getD_getElem?] at q118
          clear hsz hdep hout hlat
          go_simp
          exact hK _ _ (hJ.plain HTY (by rw [hls]; decide) (Ex.refl _) (by rw [hT]; first | rfl | exact congrArg (Value.int .i64) (by omega) | exact congrArg (Value.int .i64) (by rw [IntKind.wrap_i64]; omega)) hord)
        · rw [if_pos (by rfl)]
          intro K hK
          have dd111 := hdep ⟨15, .data⟩ (by simp) rfl
          have q111 := dd111.2 _ rfl _ rfl
          have h111 := hJ.vals 15 dd111.1 (fun c hc => by have hc : none = some c := hc; cases hc)
          rw [hT] at h111
          rw [show f 15 = .bool false from h111] at q111
          clear h111
          clear dd111
          have dd119 := hdep ⟨23, .data⟩ (by simp) rfl
          have q119 := dd119.2 _ rfl _ rfl
          have h119 := hJ.vals 23 dd119.1 (fun c hc => by have hc : none = some c := hc; cases hc)
          rw [hT] at h119
          rw [show f 23 = .bool false from h119] at q119
          clear h119
          clear dd119
          have hord : ∀ x ∈ ([] : List (Nat × Nat)), x.1 = 24 → listed.getD x.2 false = true := by simp
          rw [Array.getD_eq_getD_getElem?] at q111
          rw [Array.getD_eq_getD_getElem?] at q119
          clear hsz hdep hout hlat
          go_simp
          exact hK _ _ (hJ.plain HTY (by rw [hls]; decide) (Ex.refl _) (by rw [hT]; first | rfl | exact congrArg (Value.int .i64) (by omega) | exact congrArg (Value.int .i64) (by rw [IntKind.wrap_i64]; omega)) hord)
      · intro listed f w2 hall hJ
        have f24 : f 24 = .bool false := by
          have h := hJ.vals 24 (hall 24 (by simp)) (fun c hc => by have hc : none = some c := hc; cases hc)
          rw [hT] at h; exact h
        have xw : Ex w5 w2 := hJ.ext.below
        simp only [putAll, Act.put, List.setIfInBounds_toArray, List.set_cons_zero, List.set_cons_succ, Nat.zero_add, Nat.reduceAdd]
        rw [f24]
        clear f24
        clear hJ hall hT HTY
        generalize f 0 = y0
        generalize f 1 = y1
        generalize f 2 = y2
        generalize f 3 = y3
        generalize f 4 = y4
        generalize f 5 = y5
        generalize f 6 = y6
        generalize f 7 = y7
        generalize f 8 = y8
        generalize f 9 = y9
        generalize f 10 = y10
        generalize f 11 = y11
        generalize f 12 = y12
        generalize f 13 = y13
        generalize f 14 = y14
        generalize f 15 = y15
        generalize f 16 = y16
        generalize f 17 = y17
        generalize f 18 = y18
        generalize f 19 = y19
        generalize f 20 = y20
        generalize f 21 = y21
        generalize f 22 = y22
        generalize f 23 = y23
        replace P := Lib.hid (P.out.ex xw)
        clear xw
        go_wp2_with (first | (with_reducible refine stop_load (t := 70) ?_) | (with_reducible refine stop_store (t := 70) ?_) | (with_reducible refine stop_load (t := 72) ?_) | (with_reducible refine stop_store (t := 72) ?_) | (with_reducible refine stop_build (t := 70) ?_))
        refine (same_st P.out).mono ?_
        rintro e wz ⟨rfl, xx⟩
        replace P := Lib.hid (P.out.ex xx)
        clear xx
        go_wp2_with (first | (with_reducible refine stop_load (t := 70) ?_) | (with_reducible refine stop_store (t := 70) ?_) | (with_reducible refine stop_load (t := 72) ?_) | (with_reducible refine stop_store (t := 72) ?_) | (with_reducible refine stop_build (t := 70) ?_))
        refine ⟨⟨_, _, k + 1, ls, ⟨by omega, P⟩, rfl, rfl, rfl, rfl, rfl, rfl, rfl, rfl, rfl⟩, by simp [p21M, intOf]; omega⟩
end Go.Proofs.Ytedljddjmojeeaa
