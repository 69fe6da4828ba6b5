/- play of chapter 21 walked -/
import Derived.Test.YtedljddjmojeeaaPr
namespace Go.Proofs.Ytedljddjmojeeaa
open Go.RowKit
set_option maxHeartbeats 4000000 in
set_option maxRecDepth 100000 in
theorem p21_8 (w : World) (ad : Option Addr) (cap n : Nat) (most : Int) (l : List Ak) (O : Nat) (mv : Value) (hv : Value) (k : Nat) (ls : List (Bool × Lt)) (y : Nat → Value) (wr : World) (hk : k ≤ n) (P : Hid (Pst w wr O (ctO ls) ls mv hv)) (hL : n ≤ 9223372036854775807) (hin : Ap.In ad cap l w) (hnl : n = l.length) (hmo : (k : Int) < most) (A0 : Ak) (hA0 : l[k]? = some A0) (hlt : k < n) (hkind : A0.kind = 8) (Q0 : Exit → Act → World → Prop) (hexit : ∀ a' w'', p21I w ad cap n most l O a' w'' → Q0 (.exit 0) a' w'') :
    Code.wp Try.prog p21Body (Exit.then (fun a' w'' => p21I w ad cap n most l O a' w'' ∧ p21M n a' w'' < p21M n ⟨#[.slice ad n cap, .int .i64 most, y 2, y 3, .bool false, .pointer (some ⟨O, 0, none⟩), mv, hv, .int .i64 k, y 9, y 10, y 11, y 12, y 13, y 14, y 15, y 16, y 17, y 18, y 19, y 20, y 21, y 22, y 23, y 24, y 25, y 26, y 27, y 28, y 29, y 30, y 31, y 32, y 33, y 34, y 35, y 36, y 37, y 38, y 39, y 40, y 41, y 42, y 43, y 44, y 45, y 46, y 47, y 48, y 49, y 50, y 51, y 52, y 53, y 54, y 55, y 56, y 57, y 58, y 59, y 60, y 61, y 62, y 63, y 64, y 65, y 66, y 67, y 68, y 69, y 70, y 71, y 72, y 73, y 74, y 75, y 76, y 77, y 78, y 79, y 80, y 81, y 82, y 83, y 84, y 85, y 86, y 87, y 88, y 89, y 90, y 91, y 92, y 93, y 94, y 95, y 96, y 97, y 98, y 99, y 100, y 101, y 102, y 103, y 104, y 105, y 106, y 107, y 108, y 109, y 110, y 111, y 112, y 113, y 114, y 115, y 116, y 117, y 118, y 119, y 120, y 121, y 122, y 123, y 124, y 125, y 126, y 127, y 128, y 129, y 130, y 131, y 132, y 133, y 134, y 135, y 136, y 137, y 138, y 139, y 140, y 141, y 142, y 143, y 144, y 145, y 146, y 147, y 148, y 149, y 150, y 151, y 152, y 153, y 154, y 155, y 156, y 157, y 158, y 159, y 160, y 161, y 162, y 163, y 164, y 165, y 166, y 167, y 168, y 169, y 170, y 171, y 172, y 173, y 174, y 175, y 176, y 177, y 178, y 179, y 180, y 181, y 182, y 183, y 184, y 185, y 186, y 187, y 188, y 189, y 190, y 191, y 192, y 193, y 194, y 195, y 196, y 197, y 198, y 199, y 200, y 201, y 202, y 203, y 204, y 205, y 206, y 207, y 208, y 209, y 210, y 211, y 212, y 213], []⟩ wr) Q0) ⟨#[.slice ad n cap, .int .i64 most, y 2, y 3, .bool false, .pointer (some ⟨O, 0, none⟩), mv, hv, .int .i64 k, y 9, y 10, y 11, y 12, y 13, y 14, y 15, y 16, y 17, y 18, y 19, y 20, y 21, y 22, y 23, y 24, y 25, y 26, y 27, y 28, y 29, y 30, y 31, y 32, y 33, y 34, y 35, y 36, y 37, y 38, y 39, y 40, y 41, y 42, y 43, y 44, y 45, y 46, y 47, y 48, y 49, y 50, y 51, y 52, y 53, y 54, y 55, y 56, y 57, y 58, y 59, y 60, y 61, y 62, y 63, y 64, y 65, y 66, y 67, y 68, y 69, y 70, y 71, y 72, y 73, y 74, y 75, y 76, y 77, y 78, y 79, y 80, y 81, y 82, y 83, y 84, y 85, y 86, y 87, y 88, y 89, y 90, y 91, y 92, y 93, y 94, y 95, y 96, y 97, y 98, y 99, y 100, y 101, y 102, y 103, y 104, y 105, y 106, y 107, y 108, y 109, y 110, y 111, y 112, y 113, y 114, y 115, y 116, y 117, y 118, y 119, y 120, y 121, y 122, y 123, y 124, y 125, y 126, y 127, y 128, y 129, y 130, y 131, y 132, y 133, y 134, y 135, y 136, y 137, y 138, y 139, y 140, y 141, y 142, y 143, y 144, y 145, y 146, y 147, y 148, y 149, y 150, y 151, y 152, y 153, y 154, y 155, y 156, y 157, y 158, y 159, y 160, y 161, y 162, y 163, y 164, y 165, y 166, y 167, y 168, y 169, y 170, y 171, y 172, y 173, y 174, y 175, y 176, y 177, y 178, y 179, y 180, y 181, y 182, y 183, y 184, y 185, y 186, y 187, y 188, y 189, y 190, y 191, y 192, y 193, y 194, y 195, y 196, y 197, y 198, y 199, y 200, y 201, y 202, y 203, y 204, y 205, y 206, y 207, y 208, y 209, y 210, y 211, y 212, y 213], []⟩ wr := by
  conv => arg 2; whnf
  have HIN := Lib.hid hin
  have HNL := Lib.hid hnl
  clear hin hnl
  obtain ⟨A, hA⟩ : ∃ A, l[k]? = some A := ⟨_, List.getElem?_eq_getElem (by rw [← HNL.out]; exact hlt)⟩
  obtain ⟨aa, oa, rfl, haa, hra⟩ := HIN.out.read (by rw [← HNL.out]; omega)
  have HAR := Lib.hid (hra k A hA)
  have HAI := Lib.hid (HIN.out.ins k A hA)
  have HAA := Lib.hid haa
  clear hra haa
  obtain rfl : A = A0 := by rw [hA0] at hA; exact (Option.some.inj hA).symm
  clear hA hA0
  obtain ⟨adm, capm, rfl, _⟩ := P.out.lp
  have hn64 := P.out.off.len
  rw [ctO_len] at hn64
  obtain ⟨adh, caph, rfl, hbin⟩ := P.out.bp (by omega)
  have HBIN := Lib.hid hbin
  clear hbin
  obtain ⟨N, hN⟩ : ∃ N, N = ls.length := ⟨_, rfl⟩
  rw [← hN] at P hn64 HBIN ⊢
  have HN := Lib.hid hN
  clear hN
  have q0 : (0 : Int) ≤ (k : Int) := by omega
  have q1 : (k : Int) < (n : Int) := by omega
  go_wp2_with (first | (with_reducible refine stop_load (t := 70) ?_) | (with_reducible refine stop_store (t := 70) ?_) | (with_reducible refine stop_load (t := 72) ?_) | (with_reducible refine stop_store (t := 72) ?_) | (with_reducible refine stop_build (t := 70) ?_))
  (with_reducible refine ⟨?_⟩); (with_reducible refine at_any ?_ ?_); (focus go_simp); refine fun K0 hK => ld_ar _ aa (oa + k * 6) A rfl rfl (fun j u hu => (Below.cell (p := ⟨aa, oa + k * 6 + j, none⟩) P.out.ext HAA.out).trans (HAR.out j u hu)) (hK _ _ ?_)
  clear hK
  go_wp2_with (first | (with_reducible refine stop_load (t := 70) ?_) | (with_reducible refine stop_store (t := 70) ?_) | (with_reducible refine stop_load (t := 72) ?_) | (with_reducible refine stop_store (t := 72) ?_) | (with_reducible refine stop_build (t := 70) ?_))
  (with_reducible refine ⟨?_⟩); (with_reducible refine at_any ?_ ?_); (focus go_simp); refine fun K0 hK => st_ak _ _ wr.heap.size A rfl rfl rfl (Bk.new rfl _ _) (by rfl) (fun w2 hd9 ho => hK _ _ ?_)
  clear hK
  have xx : Ex wr w2 := ho.below wr.heap.size (Nat.le_refl _) wr (Ex.alloc wr _)
  have PX := P
  replace P := Lib.hid (P.out.ex xx)
  obtain ⟨g, hg⟩ : ∃ g, g = wr.heap.size := ⟨_, rfl⟩
  rw [← hg] at hd9 ⊢
  have HGA := Lib.hid hd9
  have XW := Lib.hid xx
  have c0 : w2.cell? ⟨g, 0, none⟩ = some (.int .i64 A.kind) := hd9.cell 0
  have c1 : w2.cell? ⟨g, 1, none⟩ = some (.int .i64 A.i) := hd9.cell 1
  clear xx ho hd9 hg PX
  go_wp2_with (first | (with_reducible refine stop_load (t := 70) ?_) | (with_reducible refine stop_store (t := 70) ?_) | (with_reducible refine stop_load (t := 72) ?_) | (with_reducible refine stop_store (t := 72) ?_) | (with_reducible refine stop_build (t := 70) ?_))
  refine (within_any A.i (-1) (N : Int) HAI.out.i (by omega) (by omega) (by omega) w2).mono ?_
  rintro e w3 ⟨j, rfl, hj0, hj1, rfl⟩
  have hj3 : j = -1 ∨ j = (N : Int) ∨ ∃ p : Nat, j = (p : Int) ∧ p < N := by
    rcases Int.lt_or_le j 0 with h | h
    · exact Or.inl (by omega)
    · obtain ⟨p, rfl⟩ := Int.eq_ofNat_of_zero_le h
      rcases Nat.lt_or_ge p N with h2 | h2
      · exact Or.inr (Or.inr ⟨p, rfl, h2⟩)
      · exact Or.inr (Or.inl (by omega))
  clear hj0 hj1
  rw [hkind] at c0
  clear hkind
  rcases hj3 with rfl | rfl | ⟨p, rfl, hp⟩
  · have r0 : ¬ (0 : Int) ≤ (-1 : Int) := by decide
    go_wp2_with (first | (with_reducible refine stop_load (t := 70) ?_) | (with_reducible refine stop_store (t := 70) ?_) | (with_reducible refine stop_load (t := 72) ?_) | (with_reducible refine stop_store (t := 72) ?_) | (with_reducible refine stop_build (t := 70) ?_))
    refine (free_none O (ctO ls) (-1) w2 P.out.off (Or.inl (by decide))).mono ?_
    rintro e w5 ⟨rfl, hof, hft⟩
    replace P := Lib.hid (P.out.ft hft hof)
    clear hof hft
    go_wp2_with (first | (with_reducible refine stop_load (t := 70) ?_) | (with_reducible refine stop_store (t := 70) ?_) | (with_reducible refine stop_load (t := 72) ?_) | (with_reducible refine stop_store (t := 72) ?_) | (with_reducible refine stop_build (t := 70) ?_))
    refine (same_st P.out).mono ?_
    rintro e wz ⟨rfl, xx⟩
    replace P := Lib.hid (P.out.ex xx)
    clear xx
    go_wp2_with (first | (with_reducible refine stop_load (t := 70) ?_) | (with_reducible refine stop_store (t := 70) ?_) | (with_reducible refine stop_load (t := 72) ?_) | (with_reducible refine stop_store (t := 72) ?_) | (with_reducible refine stop_build (t := 70) ?_))
    refine ⟨⟨_, _, k + 1, ls, ⟨by omega, P⟩, rfl, rfl, rfl, rfl, rfl, rfl, rfl, rfl, rfl⟩, by simp [p21M, intOf]; omega⟩
  · have r0 : (0 : Int) ≤ (N : Int) := by omega
    have r1 : ¬ (N : Int) < (N : Int) := by omega
    go_wp2_with (first | (with_reducible refine stop_load (t := 70) ?_) | (with_reducible refine stop_store (t := 70) ?_) | (with_reducible refine stop_load (t := 72) ?_) | (with_reducible refine stop_store (t := 72) ?_) | (with_reducible refine stop_build (t := 70) ?_))
    refine (free_none O (ctO ls) (N : Int) w2 P.out.off (Or.inr (by rw [ctO_len, ← HN.out]; omega))).mono ?_
    rintro e w5 ⟨rfl, hof, hft⟩
    replace P := Lib.hid (P.out.ft hft hof)
    clear hof hft
    go_wp2_with (first | (with_reducible refine stop_load (t := 70) ?_) | (with_reducible refine stop_store (t := 70) ?_) | (with_reducible refine stop_load (t := 72) ?_) | (with_reducible refine stop_store (t := 72) ?_) | (with_reducible refine stop_build (t := 70) ?_))
    refine (same_st P.out).mono ?_
    rintro e wz ⟨rfl, xx⟩
    replace P := Lib.hid (P.out.ex xx)
    clear xx
    go_wp2_with (first | (with_reducible refine stop_load (t := 70) ?_) | (with_reducible refine stop_store (t := 70) ?_) | (with_reducible refine stop_load (t := 72) ?_) | (with_reducible refine stop_store (t := 72) ?_) | (with_reducible refine stop_build (t := 70) ?_))
    refine ⟨⟨_, _, k + 1, ls, ⟨by omega, P⟩, rfl, rfl, rfl, rfl, rfl, rfl, rfl, rfl, rfl⟩, by simp [p21M, intOf]; omega⟩
  · have r0 : (0 : Int) ≤ (p : Int) := by omega
    have r1 : (p : Int) < (N : Int) := by omega
    obtain ⟨⟨b, z⟩, hpx⟩ : ∃ x, ls[p]? = some x := ⟨_, List.getElem?_eq_getElem (by rw [← HN.out]; exact hp)⟩
    have HCX : Hid ((ctO ls)[p]? = some (b, z.ct)) := Lib.hid (by unfold ctO; rw [List.getElem?_map, hpx]; rfl)
    cases b
    · have HPX := Lib.hid hpx
      obtain ⟨ah, oh, hadh, hlh, hch⟩ := HBIN.out.2 (by omega)
      subst hadh
      have cb : w2.cell? ⟨ah, oh + p, none⟩ = some (.bool false) := by
        refine (Below.cell (p := ⟨ah, oh + p, none⟩) XW.out hlh).trans ((hch p hp).trans ?_)
        show some (Value.bool ((ls.map (·.1)).getD p false)) = _
        rw [List.getD_eq_getElem?_getD, List.getElem?_map, hpx]; rfl
      have HCB := Lib.hid cb
      have HLH := Lib.hid (Nat.lt_of_lt_of_le hlh XW.out.sz)
      clear hch hlh cb
      clear hpx
      have cb := HCB.out
      go_wp2_with (first | (with_reducible refine stop_load (t := 70) ?_) | (with_reducible refine stop_store (t := 70) ?_) | (with_reducible refine stop_load (t := 72) ?_) | (with_reducible refine stop_store (t := 72) ?_) | (with_reducible refine stop_build (t := 70) ?_))
      refine (free_free O (ctO ls) p z.ct w2 P.out.off HCX.out).mono ?_
      rintro e w5 ⟨rfl, hof, hft⟩
      replace P := Lib.hid (P.out.ft hft hof)
      clear hof hft
      go_wp2_with (first | (with_reducible refine stop_load (t := 70) ?_) | (with_reducible refine stop_store (t := 70) ?_) | (with_reducible refine stop_load (t := 72) ?_) | (with_reducible refine stop_store (t := 72) ?_) | (with_reducible refine stop_build (t := 70) ?_))
      refine (same_st P.out).mono ?_
      rintro e wz ⟨rfl, xx⟩
      replace P := Lib.hid (P.out.ex xx)
      clear xx
      go_wp2_with (first | (with_reducible refine stop_load (t := 70) ?_) | (with_reducible refine stop_store (t := 70) ?_) | (with_reducible refine stop_load (t := 72) ?_) | (with_reducible refine stop_store (t := 72) ?_) | (with_reducible refine stop_build (t := 70) ?_))
      refine ⟨⟨_, _, k + 1, ls, ⟨by omega, P⟩, rfl, rfl, rfl, rfl, rfl, rfl, rfl, rfl, rfl⟩, by simp [p21M, intOf]; omega⟩
    · have HPX := Lib.hid hpx
      obtain ⟨ah, oh, hadh, hlh, hch⟩ := HBIN.out.2 (by omega)
      subst hadh
      have cb : w2.cell? ⟨ah, oh + p, none⟩ = some (.bool true) := by
        refine (Below.cell (p := ⟨ah, oh + p, none⟩) XW.out hlh).trans ((hch p hp).trans ?_)
        show some (Value.bool ((ls.map (·.1)).getD p false)) = _
        rw [List.getD_eq_getElem?_getD, List.getElem?_map, hpx]; rfl
      have HCB := Lib.hid cb
      have HLH := Lib.hid (Nat.lt_of_lt_of_le hlh XW.out.sz)
      clear hch hlh cb
      clear hpx
      have cb := HCB.out
      go_wp2_with (first | (with_reducible refine stop_load (t := 70) ?_) | (with_reducible refine stop_store (t := 70) ?_) | (with_reducible refine stop_load (t := 72) ?_) | (with_reducible refine stop_store (t := 72) ?_) | (with_reducible refine stop_build (t := 70) ?_))
      refine (free_yes O (ctO ls) p z.ct w2 P.out.off HCX.out).mono ?_
      rintro e w5 ⟨rfl, hof, hft⟩
      replace P := Lib.hid (P.out.ft hft hof)
      clear hof hft
      obtain ⟨gh, cur, hgh, hbk, hpc, hset⟩ := P.out.mark p _ HPX.out false
      cases hgh
      have HBK := Lib.hid hbk
      have HPC := Lib.hid hpc
      have HST := Lib.hid hset
      clear hbk hpc hset cb c0 c1 HCB HLH HBIN
      go_wp2_with (first | (with_reducible refine stop_store (t := 4) ?_) |  (with_reducible refine stop_load (t := 70) ?_) | (with_reducible refine stop_store (t := 70) ?_) | (with_reducible refine stop_load (t := 72) ?_) | (with_reducible refine stop_store (t := 72) ?_) | (with_reducible refine stop_build (t := 70) ?_))
      (with_reducible refine ⟨?_⟩); (with_reducible refine at_any ?_ ?_); (focus go_simp); refine fun K0 hK => wp_st1 (C := cur.toList) _ _ ah p (.bool false) rfl rfl rfl (by rw [Array.toArray_toList]; exact HBK.out) (by simpa using HPC.out) (by kernel_rfl) rfl (fun w6 hd ho => hK _ _ ?_)
      clear hK
      replace P := Lib.hid (HST.out w6 hd ho)
      rw [show (ctO ls).set p (false, z.ct) = ctO (ls.set p (false, z)) from by rw [ctO_set]] at P
      clear hd ho HST HBK HPC
      go_wp2_with (first | (with_reducible refine stop_load (t := 70) ?_) | (with_reducible refine stop_store (t := 70) ?_) | (with_reducible refine stop_load (t := 72) ?_) | (with_reducible refine stop_store (t := 72) ?_) | (with_reducible refine stop_build (t := 70) ?_))
      refine (same_st P.out).mono ?_
      rintro e wz ⟨rfl, xx⟩
      replace P := Lib.hid (P.out.ex xx)
      clear xx
      go_wp2_with (first | (with_reducible refine stop_load (t := 70) ?_) | (with_reducible refine stop_store (t := 70) ?_) | (with_reducible refine stop_load (t := 72) ?_) | (with_reducible refine stop_store (t := 72) ?_) | (with_reducible refine stop_build (t := 70) ?_))
      refine ⟨⟨_, _, k + 1, ls.set p (false, z), ⟨by omega, P⟩, rfl, rfl, rfl, rfl, rfl, rfl, rfl, rfl, rfl⟩, by simp [p21M, intOf]; omega⟩
end Go.Proofs.Ytedljddjmojeeaa
