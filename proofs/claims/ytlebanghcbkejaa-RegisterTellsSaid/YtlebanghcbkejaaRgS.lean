/- same of chapter 8: both registers tell the same -/
import Derived.Test.YtlebanghcbkejaaRgR
import Derived.Test.YtlebanghcbkejaaT1
namespace Go.Proofs.Ytlebanghcbkejaa
open Go.RowKit
structure Rg.In (r : Rg) : Prop where
  b1 : r.b < 18446744073709551616
  c1 : r.c < 18446744073709551616
  p0 : -9223372036854775808 ≤ r.p
  p1 : r.p ≤ 9223372036854775807
theorem kept_tuple (r s : Rg) (h : s.l.length = 16) : ∃ (k : Rg) (q : Bool), keptV r s = .tuple #[k.V, .bool q] ∧ k.l.length = 16 := ⟨_, _, rfl, kept_len r s h⟩
theorem fold_tuple (r : Rg) (H : List UInt8) (h : H.length = 16) : ∃ (k : Rg) (q : Bool), foldV r H = .tuple #[k.V, .bool q] ∧ k.l.length = 16 := by
  unfold foldV
  split
  · exact ⟨zeroRg, false, rfl, rfl⟩
  · exact kept_tuple r _ h
set_option maxHeartbeats 8000000 in
set_option maxRecDepth 100000 in
theorem same_any (r s : Rg) (ok : r.Ok) (ok' : s.Ok) (hi : r.In) (H : List UInt8) (hH : H.length = 16) (w : World) :
    Calls Try.prog 11 #[r.V, s.V, digV H] w fun e w' => e = .returned (.bool true) ∧ Below w.heap.size w w' := by
  have C13 := Lib.hid (fun W => next_any r ok H hH hi.c1 W)
  have C27 := Lib.hid (fun W => rnext_any r ok H hH hi.c1 W)
  have C14 := Lib.hid (fun W => boot_any r ok hi.b1 W)
  have C28 := Lib.hid (fun W => rboot_any r ok hi.b1 W)
  have C15 := Lib.hid (fun W => fold_any r ok H hH hi.c1 hi.p0 hi.p1 W)
  have C29 := Lib.hid (fun W => rfold_any r ok H hH hi.p0 hi.p1 W)
  have C18 := Lib.hid (fun W => right_one r ok W)
  have C30 := Lib.hid (fun W => right_ref r ok W)
  have C16 := Lib.hid (fun W => held_one r ok W)
  have C31 := Lib.hid (fun W => held_ref r ok W)
  have C17 := Lib.hid (fun W => behind_one r s ok ok' W)
  obtain ⟨k1, q1, e1, l1⟩ := kept_tuple r (r.next H) hH
  obtain ⟨k2, q2, e2, l2⟩ := kept_tuple r r.boot ok.l16
  obtain ⟨k3, q3, e3, l3⟩ := fold_tuple r H hH
  rw [e1] at C13 C27
  rw [e2] at C14 C28
  rw [e3] at C15 C29
  have L1 := Lib.hid l1
  have L2 := Lib.hid l2
  have L3 := Lib.hid l3
  clear e1 e2 e3 l1 l2 l3
  generalize r.right = q4 at C18 C30
  generalize r.held = n5 at C16 C31
  have HR := Lib.hid ok.l16
  have HS := Lib.hid ok'.l16
  have HH := Lib.hid hH
  obtain ⟨b0, c0, _, _⟩ := ok
  obtain ⟨b0', c0', _, _⟩ := ok'
  obtain ⟨cs, hcs⟩ : ∃ cs, cs = r.C.toArray := ⟨_, rfl⟩
  have hv : r.V = .agg cs := by rw [hcs]; rfl
  obtain ⟨es, hes⟩ : ∃ cs, cs = s.C.toArray := ⟨_, rfl⟩
  have hv2 : s.V = .agg es := by rw [hes]; rfl
  obtain ⟨ds, hds⟩ : ∃ cs, cs = (Lib.byteCells H).toArray := ⟨_, rfl⟩
  have hv' : digV H = .agg ds := by rw [hds]; rfl
  have R : Hid (RB (((w.alloc (.cells cs 27)).alloc (.cells es 27)).alloc (.cells ds 25)) w.heap.size r) := by
    rw [hcs]; exact Lib.hid ⟨HR.out, ((Bk.new rfl _ _).more _).more _⟩
  have S : Hid (RB (((w.alloc (.cells cs 27)).alloc (.cells es 27)).alloc (.cells ds 25)) (w.heap.size + 1) s) := by
    rw [hes]; exact Lib.hid ⟨HS.out, (Bk.new (by simp) _ _).more _⟩
  have D : Hid (DB (((w.alloc (.cells cs 27)).alloc (.cells es 27)).alloc (.cells ds 25)) (w.heap.size + 1 + 1) H) := by
    rw [hds]; exact Lib.hid ⟨HH.out, Bk.new (by simp) _ _⟩
  have bw : Below w.heap.size w (((w.alloc (.cells cs 27)).alloc (.cells es 27)).alloc (.cells ds 25)) := (((Below.refl _ _).alloc (Nat.le_refl _) _).alloc (by simp) _).alloc (by simp; omega) _
  rw [show (Calls Try.prog 11 #[r.V, s.V, digV H] w fun e w' => e = .returned (.bool true) ∧ Below w.heap.size w w') = (Calls Try.prog 11 #[.agg cs, .agg es, .agg ds] w fun e w' => e = .returned (.bool true) ∧ Below w.heap.size w w') by rw [hv, hv2, hv']]
  clear hv hv2 hv' hcs hes hds hH hi
  have BW := Lib.hid bw
  clear bw
  go_enter Try.func11, Try.ntmps11
  go_wp2_with (first | (with_reducible refine stop_load25 ?_) | (with_reducible refine stop_store25 ?_) | (with_reducible refine stop_load27 ?_) | (with_reducible refine stop_store27 ?_))
  have bw := BW.out
  clear BW
  generalize hw1 : ((w.alloc (.cells cs 27)).alloc (.cells es 27)).alloc (.cells ds 25) = w1 at *
  obtain ⟨B, hB⟩ : ∃ B, B = w.heap.size := ⟨_, rfl⟩
  rw [← hB] at R S D
  try rw [← hB]
  replace hB := Lib.hid hB
  clear hw1
  (with_reducible refine ⟨?_⟩); (with_reducible refine at_any ?_ ?_); (focus go_simp); refine fun K hK => wp_ldr _ _ r rfl rfl R.out (hK _ _ ?_)
  clear hK
  go_wp2_with (first | (with_reducible refine stop_load25 ?_) | (with_reducible refine stop_store25 ?_) | (with_reducible refine stop_load27 ?_) | (with_reducible refine stop_store27 ?_))
  (with_reducible refine ⟨?_⟩); (with_reducible refine at_any ?_ ?_); (focus go_simp); refine fun K hK => wp_ldh _ _ H rfl rfl D.out (hK _ _ ?_)
  clear hK
  go_wp2_with (first | (with_reducible refine stop_load25 ?_) | (with_reducible refine stop_store25 ?_) | (with_reducible refine stop_load27 ?_) | (with_reducible refine stop_store27 ?_))
  refine (C13.out _).mono ?_
  rintro e wa ⟨rfl, xa⟩
  go_wp2_with (first | (with_reducible refine stop_load25 ?_) | (with_reducible refine stop_store25 ?_) | (with_reducible refine stop_load27 ?_) | (with_reducible refine stop_store27 ?_))
  (with_reducible refine ⟨?_⟩); (with_reducible refine at_any ?_ ?_); (focus go_simp); refine fun K hK => wp_str _ _ wa.heap.size k1 rfl rfl rfl L1.out (Bk.new rfl _ _) rfl (fun wb hd ho => hK _ _ ?_)
  have xab := Ex.trans xa ho.ex
  have bwb : Below w.heap.size w wb := bw.trans (Below.mono xab bw.size)
  replace R := Lib.hid (R.out.ext xab)
  replace S := Lib.hid (S.out.ext xab)
  replace D := Lib.hid (D.out.ext xab)
  generalize wa.heap.size = g1 at hd ⊢
  have A1 := Lib.hid hd
  clear hK ho hd xa xab bw C13
  have bw := bwb
  clear bwb
  go_wp2_with (first | (with_reducible refine stop_load25 ?_) | (with_reducible refine stop_store25 ?_) | (with_reducible refine stop_load27 ?_) | (with_reducible refine stop_store27 ?_))
  (with_reducible refine ⟨?_⟩); (with_reducible refine at_any ?_ ?_); (focus go_simp); refine fun K hK => wp_ldr _ _ r rfl rfl R.out (hK _ _ ?_)
  clear hK
  go_wp2_with (first | (with_reducible refine stop_load25 ?_) | (with_reducible refine stop_store25 ?_) | (with_reducible refine stop_load27 ?_) | (with_reducible refine stop_store27 ?_))
  (with_reducible refine ⟨?_⟩); (with_reducible refine at_any ?_ ?_); (focus go_simp); refine fun K hK => wp_ldh _ _ H rfl rfl D.out (hK _ _ ?_)
  clear hK
  go_wp2_with (first | (with_reducible refine stop_load25 ?_) | (with_reducible refine stop_store25 ?_) | (with_reducible refine stop_load27 ?_) | (with_reducible refine stop_store27 ?_))
  refine (C27.out _).mono ?_
  rintro e wa ⟨rfl, xa⟩
  go_wp2_with (first | (with_reducible refine stop_load25 ?_) | (with_reducible refine stop_store25 ?_) | (with_reducible refine stop_load27 ?_) | (with_reducible refine stop_store27 ?_))
  (with_reducible refine ⟨?_⟩); (with_reducible refine at_any ?_ ?_); (focus go_simp); refine fun K hK => wp_str _ _ wa.heap.size k1 rfl rfl rfl L1.out (Bk.new rfl _ _) rfl (fun wb hd ho => hK _ _ ?_)
  have xab := Ex.trans xa ho.ex
  have bwb : Below w.heap.size w wb := bw.trans (Below.mono xab bw.size)
  replace R := Lib.hid (R.out.ext xab)
  replace S := Lib.hid (S.out.ext xab)
  replace D := Lib.hid (D.out.ext xab)
  replace A1 := Lib.hid (A1.out.ext xab)
  generalize wa.heap.size = g2 at hd ⊢
  have A2 := Lib.hid hd
  clear hK ho hd xa xab bw C27
  have bw := bwb
  clear bwb
  go_wp2_with (first | (with_reducible refine stop_load25 ?_) | (with_reducible refine stop_store25 ?_) | (with_reducible refine stop_load27 ?_) | (with_reducible refine stop_store27 ?_))
  (with_reducible refine ⟨?_⟩); (with_reducible refine at_any ?_ ?_); (focus go_simp); refine fun K hK => wp_ldr _ _ r rfl rfl R.out (hK _ _ ?_)
  clear hK
  go_wp2_with (first | (with_reducible refine stop_load25 ?_) | (with_reducible refine stop_store25 ?_) | (with_reducible refine stop_load27 ?_) | (with_reducible refine stop_store27 ?_))
  refine (C14.out _).mono ?_
  rintro e wa ⟨rfl, xa⟩
  go_wp2_with (first | (with_reducible refine stop_load25 ?_) | (with_reducible refine stop_store25 ?_) | (with_reducible refine stop_load27 ?_) | (with_reducible refine stop_store27 ?_))
  (with_reducible refine ⟨?_⟩); (with_reducible refine at_any ?_ ?_); (focus go_simp); refine fun K hK => wp_str _ _ wa.heap.size k2 rfl rfl rfl L2.out (Bk.new rfl _ _) rfl (fun wb hd ho => hK _ _ ?_)
  have xab := Ex.trans xa ho.ex
  have bwb : Below w.heap.size w wb := bw.trans (Below.mono xab bw.size)
  replace R := Lib.hid (R.out.ext xab)
  replace S := Lib.hid (S.out.ext xab)
  replace D := Lib.hid (D.out.ext xab)
  replace A1 := Lib.hid (A1.out.ext xab)
  replace A2 := Lib.hid (A2.out.ext xab)
  generalize wa.heap.size = g3 at hd ⊢
  have A3 := Lib.hid hd
  clear hK ho hd xa xab bw C14
  have bw := bwb
  clear bwb
  go_wp2_with (first | (with_reducible refine stop_load25 ?_) | (with_reducible refine stop_store25 ?_) | (with_reducible refine stop_load27 ?_) | (with_reducible refine stop_store27 ?_))
  (with_reducible refine ⟨?_⟩); (with_reducible refine at_any ?_ ?_); (focus go_simp); refine fun K hK => wp_ldr _ _ r rfl rfl R.out (hK _ _ ?_)
  clear hK
  go_wp2_with (first | (with_reducible refine stop_load25 ?_) | (with_reducible refine stop_store25 ?_) | (with_reducible refine stop_load27 ?_) | (with_reducible refine stop_store27 ?_))
  refine (C28.out _).mono ?_
  rintro e wa ⟨rfl, xa⟩
  go_wp2_with (first | (with_reducible refine stop_load25 ?_) | (with_reducible refine stop_store25 ?_) | (with_reducible refine stop_load27 ?_) | (with_reducible refine stop_store27 ?_))
  (with_reducible refine ⟨?_⟩); (with_reducible refine at_any ?_ ?_); (focus go_simp); refine fun K hK => wp_str _ _ wa.heap.size k2 rfl rfl rfl L2.out (Bk.new rfl _ _) rfl (fun wb hd ho => hK _ _ ?_)
  have xab := Ex.trans xa ho.ex
  have bwb : Below w.heap.size w wb := bw.trans (Below.mono xab bw.size)
  replace R := Lib.hid (R.out.ext xab)
  replace S := Lib.hid (S.out.ext xab)
  replace D := Lib.hid (D.out.ext xab)
  replace A1 := Lib.hid (A1.out.ext xab)
  replace A2 := Lib.hid (A2.out.ext xab)
  replace A3 := Lib.hid (A3.out.ext xab)
  generalize wa.heap.size = g4 at hd ⊢
  have A4 := Lib.hid hd
  clear hK ho hd xa xab bw C28
  have bw := bwb
  clear bwb
  go_wp2_with (first | (with_reducible refine stop_load25 ?_) | (with_reducible refine stop_store25 ?_) | (with_reducible refine stop_load27 ?_) | (with_reducible refine stop_store27 ?_))
  (with_reducible refine ⟨?_⟩); (with_reducible refine at_any ?_ ?_); (focus go_simp); refine fun K hK => wp_ldr _ _ r rfl rfl R.out (hK _ _ ?_)
  clear hK
  go_wp2_with (first | (with_reducible refine stop_load25 ?_) | (with_reducible refine stop_store25 ?_) | (with_reducible refine stop_load27 ?_) | (with_reducible refine stop_store27 ?_))
  (with_reducible refine ⟨?_⟩); (with_reducible refine at_any ?_ ?_); (focus go_simp); refine fun K hK => wp_ldh _ _ H rfl rfl D.out (hK _ _ ?_)
  clear hK
  go_wp2_with (first | (with_reducible refine stop_load25 ?_) | (with_reducible refine stop_store25 ?_) | (with_reducible refine stop_load27 ?_) | (with_reducible refine stop_store27 ?_))
  refine (C15.out _).mono ?_
  rintro e wa ⟨rfl, xa⟩
  go_wp2_with (first | (with_reducible refine stop_load25 ?_) | (with_reducible refine stop_store25 ?_) | (with_reducible refine stop_load27 ?_) | (with_reducible refine stop_store27 ?_))
  (with_reducible refine ⟨?_⟩); (with_reducible refine at_any ?_ ?_); (focus go_simp); refine fun K hK => wp_str _ _ wa.heap.size k3 rfl rfl rfl L3.out (Bk.new rfl _ _) rfl (fun wb hd ho => hK _ _ ?_)
  have xab := Ex.trans xa ho.ex
  have bwb : Below w.heap.size w wb := bw.trans (Below.mono xab bw.size)
  replace R := Lib.hid (R.out.ext xab)
  replace S := Lib.hid (S.out.ext xab)
  replace D := Lib.hid (D.out.ext xab)
  replace A1 := Lib.hid (A1.out.ext xab)
  replace A2 := Lib.hid (A2.out.ext xab)
  replace A3 := Lib.hid (A3.out.ext xab)
  replace A4 := Lib.hid (A4.out.ext xab)
  generalize wa.heap.size = g5 at hd ⊢
  have A5 := Lib.hid hd
  clear hK ho hd xa xab bw C15
  have bw := bwb
  clear bwb
  go_wp2_with (first | (with_reducible refine stop_load25 ?_) | (with_reducible refine stop_store25 ?_) | (with_reducible refine stop_load27 ?_) | (with_reducible refine stop_store27 ?_))
  (with_reducible refine ⟨?_⟩); (with_reducible refine at_any ?_ ?_); (focus go_simp); refine fun K hK => wp_ldr _ _ r rfl rfl R.out (hK _ _ ?_)
  clear hK
  go_wp2_with (first | (with_reducible refine stop_load25 ?_) | (with_reducible refine stop_store25 ?_) | (with_reducible refine stop_load27 ?_) | (with_reducible refine stop_store27 ?_))
  (with_reducible refine ⟨?_⟩); (with_reducible refine at_any ?_ ?_); (focus go_simp); refine fun K hK => wp_ldh _ _ H rfl rfl D.out (hK _ _ ?_)
  clear hK
  go_wp2_with (first | (with_reducible refine stop_load25 ?_) | (with_reducible refine stop_store25 ?_) | (with_reducible refine stop_load27 ?_) | (with_reducible refine stop_store27 ?_))
  refine (C29.out _).mono ?_
  rintro e wa ⟨rfl, xa⟩
  go_wp2_with (first | (with_reducible refine stop_load25 ?_) | (with_reducible refine stop_store25 ?_) | (with_reducible refine stop_load27 ?_) | (with_reducible refine stop_store27 ?_))
  (with_reducible refine ⟨?_⟩); (with_reducible refine at_any ?_ ?_); (focus go_simp); refine fun K hK => wp_str _ _ wa.heap.size k3 rfl rfl rfl L3.out (Bk.new rfl _ _) rfl (fun wb hd ho => hK _ _ ?_)
  have xab := Ex.trans xa ho.ex
  have bwb : Below w.heap.size w wb := bw.trans (Below.mono xab bw.size)
  replace R := Lib.hid (R.out.ext xab)
  replace S := Lib.hid (S.out.ext xab)
  replace D := Lib.hid (D.out.ext xab)
  replace A1 := Lib.hid (A1.out.ext xab)
  replace A2 := Lib.hid (A2.out.ext xab)
  replace A3 := Lib.hid (A3.out.ext xab)
  replace A4 := Lib.hid (A4.out.ext xab)
  replace A5 := Lib.hid (A5.out.ext xab)
  generalize wa.heap.size = g6 at hd ⊢
  have A6 := Lib.hid hd
  clear hK ho hd xa xab bw C29
  have bw := bwb
  clear bwb
  go_wp2_with (first | (with_reducible refine stop_load25 ?_) | (with_reducible refine stop_store25 ?_) | (with_reducible refine stop_load27 ?_) | (with_reducible refine stop_store27 ?_))
  generalize wb = wr at *
  by_cases hb : r.b < s.b
  · have hb2 : (decide (r.b < s.b) || decide (r.c < s.c)) = true := by simp [hb]
    rw [hb2] at C17
    clear hb2
    obtain ⟨V, hV⟩ : ∃ V : List Value, V = [k1.V, k1.V, .bool true, .bool true, .bool q1, .bool q1, .bool true, .bool true, .bool true, k2.V, k2.V, .bool true, .bool true, .bool true, .bool q2, .bool q2, .bool true, .bool true, .bool true, k3.V, k3.V, .bool true, .bool true, .bool true, .bool q3, .bool q3, .bool true, .bool true, .bool true, r.V, .bool q4, r.V, .bool q4, .bool true, .bool true, .bool true, r.V, .int .i64 n5, r.V, .int .i64 n5, .bool true, .bool true, .bool true, r.V, s.V, .bool true, .pointer (some ⟨B, 0, none⟩), .int .u64 r.b, .pointer (some ⟨B + 1, 0, none⟩), .int .u64 s.b, .bool true, .bool true, undef, undef, undef, undef, undef, .bool true, .bool true, .bool true, .bool true] := ⟨_, rfl⟩
    refine wp_region_inv (fun i => V.getD i undef) (fun _ w2 => Ex wr w2) (by kernel_rfl) (by kernel_rfl) (by kernel_rfl) (fitB_spec (by kernel_rfl)) ?_ ?_ ?_
    · intro l h0
      exact (Below.refl _ _).drew
    · intro i o ho
      have hi : i < 61 := (Array.getElem?_eq_some_iff.1 ho).1
      have hi' : i = 0 ∨ i = 1 ∨ i = 2 ∨ i = 3 ∨ i = 4 ∨ i = 5 ∨ i = 6 ∨ i = 7 ∨ i = 8 ∨ i = 9 ∨ i = 10 ∨ i = 11 ∨ i = 12 ∨ i = 13 ∨ i = 14 ∨ i = 15 ∨ i = 16 ∨ i = 17 ∨ i = 18 ∨ i = 19 ∨ i = 20 ∨ i = 21 ∨ i = 22 ∨ i = 23 ∨ i = 24 ∨ i = 25 ∨ i = 26 ∨ i = 27 ∨ i = 28 ∨ i = 29 ∨ i = 30 ∨ i = 31 ∨ i = 32 ∨ i = 33 ∨ i = 34 ∨ i = 35 ∨ i = 36 ∨ i = 37 ∨ i = 38 ∨ i = 39 ∨ i = 40 ∨ i = 41 ∨ i = 42 ∨ i = 43 ∨ i = 44 ∨ i = 45 ∨ i = 46 ∨ i = 47 ∨ i = 48 ∨ i = 49 ∨ i = 50 ∨ i = 51 ∨ i = 52 ∨ i = 53 ∨ i = 54 ∨ i = 55 ∨ i = 56 ∨ i = 57 ∨ i = 58 ∨ i = 59 ∨ i = 60 := by omega
      clear hi
      rcases hi' with rfl | rfl | rfl | rfl | rfl | rfl | rfl | rfl | rfl | rfl | rfl | rfl | rfl | rfl | rfl | rfl | rfl | rfl | rfl | rfl | rfl | rfl | rfl | rfl | rfl | rfl | rfl | rfl | rfl | rfl | rfl | rfl | rfl | rfl | rfl | rfl | rfl | rfl | rfl | rfl | rfl | rfl | rfl | rfl | rfl | rfl | rfl | rfl | rfl | rfl | rfl | rfl | rfl | rfl | rfl | rfl | rfl | rfl | rfl | rfl | rfl
      all_goals (simp only [List.getElem?_toArray, List.getElem?_cons_zero, List.getElem?_cons_succ, Option.some.injEq] at ho; subst ho hV; intro listed a w2 hI hsz hls hun hdep hout)
      · rw [if_pos (by rfl)]
        intro K hK
        have q7 := hout 7 (outB_spec (by kernel_rfl))
        exact wp_ldr _ g1 k1 rfl q7 (A1.out.ext hI) (hK _ hI)
      · rw [if_pos (by rfl)]
        intro K hK
        have q9 := hout 9 (outB_spec (by kernel_rfl))
        exact wp_ldr _ g2 k1 rfl q9 (A2.out.ext hI) (hK _ hI)
      · rw [if_pos (by rfl)]
        intro K hK
        have q53 := (hdep ⟨0, .data⟩ (by simp) rfl).2 _ rfl _ rfl
        have q53 : a.tmps.getD 53 undef = k1.V := q53
        have q54 := (hdep ⟨1, .data⟩ (by simp) rfl).2 _ rfl _ rfl
        have q54 : a.tmps.getD 54 undef = k1.V := q54
        exact wp_eql_reg _ _ _ rfl k1 L1.out q53 q54 (hK _ hI)
      · rw [if_pos (by rfl)]
        intro K hK
        have q55 := (hdep ⟨2, .data⟩ (by simp) rfl).2 _ rfl _ rfl
        have q55 : a.tmps.getD 55 undef = .bool true := q55
        clear hsz hdep hout hun
        go_simp
        exact hK _ (by exact hI)
      · have kg := (hdep ⟨3, .guard⟩ (by simp) rfl).2 _ rfl _ rfl
        rw [if_pos (wanted_of rfl rfl rfl kg)]
        intro K hK
        have q8 := hout 8 (outB_spec (by kernel_rfl))
        clear hsz hdep hout hun kg
        go_simp
        exact hK _ (by exact hI)
      · have kg := (hdep ⟨3, .guard⟩ (by simp) rfl).2 _ rfl _ rfl
        rw [if_pos (wanted_of rfl rfl rfl kg)]
        intro K hK
        have q10 := hout 10 (outB_spec (by kernel_rfl))
        clear hsz hdep hout hun kg
        go_simp
        exact hK _ (by exact hI)
      · have kg := (hdep ⟨3, .guard⟩ (by simp) rfl).2 _ rfl _ rfl
        rw [if_pos (wanted_of rfl rfl rfl kg)]
        intro K hK
        have q57 := (hdep ⟨4, .data⟩ (by simp) rfl).2 _ rfl _ rfl
        have q57 : a.tmps.getD 57 undef = .bool q1 := q57
        have q58 := (hdep ⟨5, .data⟩ (by simp) rfl).2 _ rfl _ rfl
        have q58 : a.tmps.getD 58 undef = .bool q1 := q58
        clear hsz hdep hout hun kg
        go_simp
        exact hK _ (by exact hI)
      · rw [if_pos (by rfl)]
        intro K hK
        have q56 := (hdep ⟨3, .data⟩ (by simp) rfl).2 _ rfl _ rfl
        have q56 : a.tmps.getD 56 undef = .bool true := q56
        have q59 := (hdep ⟨6, .data⟩ (by simp) rfl).2 _ rfl _ rfl
        have q59 : a.tmps.getD 59 undef = .bool true := q59
        clear hsz hdep hout hun
        go_simp
        exact hK _ (by exact hI)
      · rw [if_pos (by rfl)]
        intro K hK
        have q60 := (hdep ⟨7, .data⟩ (by simp) rfl).2 _ rfl _ rfl
        have q60 : a.tmps.getD 60 undef = .bool true := q60
        clear hsz hdep hout hun
        go_simp
        exact hK _ (by exact hI)
      · have kg := (hdep ⟨8, .guard⟩ (by simp) rfl).2 _ rfl _ rfl
        rw [if_pos (wanted_of rfl rfl rfl kg)]
        intro K hK
        have q11 := hout 11 (outB_spec (by kernel_rfl))
        exact wp_ldr _ g3 k2 rfl q11 (A3.out.ext hI) (hK _ hI)
      · have kg := (hdep ⟨8, .guard⟩ (by simp) rfl).2 _ rfl _ rfl
        rw [if_pos (wanted_of rfl rfl rfl kg)]
        intro K hK
        have q13 := hout 13 (outB_spec (by kernel_rfl))
        exact wp_ldr _ g4 k2 rfl q13 (A4.out.ext hI) (hK _ hI)
      · have kg := (hdep ⟨8, .guard⟩ (by simp) rfl).2 _ rfl _ rfl
        rw [if_pos (wanted_of rfl rfl rfl kg)]
        intro K hK
        have q62 := (hdep ⟨9, .data⟩ (by simp) rfl).2 _ rfl _ rfl
        have q62 : a.tmps.getD 62 undef = k2.V := q62
        have q63 := (hdep ⟨10, .data⟩ (by simp) rfl).2 _ rfl _ rfl
        have q63 : a.tmps.getD 63 undef = k2.V := q63
        exact wp_eql_reg _ _ _ rfl k2 L2.out q62 q63 (hK _ hI)
      · rw [if_pos (by rfl)]
        intro K hK
        have q61 := (hdep ⟨8, .data⟩ (by simp) rfl).2 _ rfl _ rfl
        have q61 : a.tmps.getD 61 undef = .bool true := q61
        have q64 := (hdep ⟨11, .data⟩ (by simp) rfl).2 _ rfl _ rfl
        have q64 : a.tmps.getD 64 undef = .bool true := q64
        clear hsz hdep hout hun
        go_simp
        exact hK _ (by exact hI)
      · rw [if_pos (by rfl)]
        intro K hK
        have q65 := (hdep ⟨12, .data⟩ (by simp) rfl).2 _ rfl _ rfl
        have q65 : a.tmps.getD 65 undef = .bool true := q65
        clear hsz hdep hout hun
        go_simp
        exact hK _ (by exact hI)
      · have kg := (hdep ⟨13, .guard⟩ (by simp) rfl).2 _ rfl _ rfl
        rw [if_pos (wanted_of rfl rfl rfl kg)]
        intro K hK
        have q12 := hout 12 (outB_spec (by kernel_rfl))
        clear hsz hdep hout hun kg
        go_simp
        exact hK _ (by exact hI)
      · have kg := (hdep ⟨13, .guard⟩ (by simp) rfl).2 _ rfl _ rfl
        rw [if_pos (wanted_of rfl rfl rfl kg)]
        intro K hK
        have q14 := hout 14 (outB_spec (by kernel_rfl))
        clear hsz hdep hout hun kg
        go_simp
        exact hK _ (by exact hI)
      · have kg := (hdep ⟨13, .guard⟩ (by simp) rfl).2 _ rfl _ rfl
        rw [if_pos (wanted_of rfl rfl rfl kg)]
        intro K hK
        have q67 := (hdep ⟨14, .data⟩ (by simp) rfl).2 _ rfl _ rfl
        have q67 : a.tmps.getD 67 undef = .bool q2 := q67
        have q68 := (hdep ⟨15, .data⟩ (by simp) rfl).2 _ rfl _ rfl
        have q68 : a.tmps.getD 68 undef = .bool q2 := q68
        clear hsz hdep hout hun kg
        go_simp
        exact hK _ (by exact hI)
      · rw [if_pos (by rfl)]
        intro K hK
        have q66 := (hdep ⟨13, .data⟩ (by simp) rfl).2 _ rfl _ rfl
        have q66 : a.tmps.getD 66 undef = .bool true := q66
        have q69 := (hdep ⟨16, .data⟩ (by simp) rfl).2 _ rfl _ rfl
        have q69 : a.tmps.getD 69 undef = .bool true := q69
        clear hsz hdep hout hun
        go_simp
        exact hK _ (by exact hI)
      · rw [if_pos (by rfl)]
        intro K hK
        have q70 := (hdep ⟨17, .data⟩ (by simp) rfl).2 _ rfl _ rfl
        have q70 : a.tmps.getD 70 undef = .bool true := q70
        clear hsz hdep hout hun
        go_simp
        exact hK _ (by exact hI)
      · have kg := (hdep ⟨18, .guard⟩ (by simp) rfl).2 _ rfl _ rfl
        rw [if_pos (wanted_of rfl rfl rfl kg)]
        intro K hK
        have q15 := hout 15 (outB_spec (by kernel_rfl))
        exact wp_ldr _ g5 k3 rfl q15 (A5.out.ext hI) (hK _ hI)
      · have kg := (hdep ⟨18, .guard⟩ (by simp) rfl).2 _ rfl _ rfl
        rw [if_pos (wanted_of rfl rfl rfl kg)]
        intro K hK
        have q17 := hout 17 (outB_spec (by kernel_rfl))
        exact wp_ldr _ g6 k3 rfl q17 (A6.out.ext hI) (hK _ hI)
      · have kg := (hdep ⟨18, .guard⟩ (by simp) rfl).2 _ rfl _ rfl
        rw [if_pos (wanted_of rfl rfl rfl kg)]
        intro K hK
        have q72 := (hdep ⟨19, .data⟩ (by simp) rfl).2 _ rfl _ rfl
        have q72 : a.tmps.getD 72 undef = k3.V := q72
        have q73 := (hdep ⟨20, .data⟩ (by simp) rfl).2 _ rfl _ rfl
        have q73 : a.tmps.getD 73 undef = k3.V := q73
        exact wp_eql_reg _ _ _ rfl k3 L3.out q72 q73 (hK _ hI)
      · rw [if_pos (by rfl)]
        intro K hK
        have q71 := (hdep ⟨18, .data⟩ (by simp) rfl).2 _ rfl _ rfl
        have q71 : a.tmps.getD 71 undef = .bool true := q71
        have q74 := (hdep ⟨21, .data⟩ (by simp) rfl).2 _ rfl _ rfl
        have q74 : a.tmps.getD 74 undef = .bool true := q74
        clear hsz hdep hout hun
        go_simp
        exact hK _ (by exact hI)
      · rw [if_pos (by rfl)]
        intro K hK
        have q75 := (hdep ⟨22, .data⟩ (by simp) rfl).2 _ rfl _ rfl
        have q75 : a.tmps.getD 75 undef = .bool true := q75
        clear hsz hdep hout hun
        go_simp
        exact hK _ (by exact hI)
      · have kg := (hdep ⟨23, .guard⟩ (by simp) rfl).2 _ rfl _ rfl
        rw [if_pos (wanted_of rfl rfl rfl kg)]
        intro K hK
        have q16 := hout 16 (outB_spec (by kernel_rfl))
        clear hsz hdep hout hun kg
        go_simp
        exact hK _ (by exact hI)
      · have kg := (hdep ⟨23, .guard⟩ (by simp) rfl).2 _ rfl _ rfl
        rw [if_pos (wanted_of rfl rfl rfl kg)]
        intro K hK
        have q18 := hout 18 (outB_spec (by kernel_rfl))
        clear hsz hdep hout hun kg
        go_simp
        exact hK _ (by exact hI)
      · have kg := (hdep ⟨23, .guard⟩ (by simp) rfl).2 _ rfl _ rfl
        rw [if_pos (wanted_of rfl rfl rfl kg)]
        intro K hK
        have q77 := (hdep ⟨24, .data⟩ (by simp) rfl).2 _ rfl _ rfl
        have q77 : a.tmps.getD 77 undef = .bool q3 := q77
        have q78 := (hdep ⟨25, .data⟩ (by simp) rfl).2 _ rfl _ rfl
        have q78 : a.tmps.getD 78 undef = .bool q3 := q78
        clear hsz hdep hout hun kg
        go_simp
        exact hK _ (by exact hI)
      · rw [if_pos (by rfl)]
        intro K hK
        have q76 := (hdep ⟨23, .data⟩ (by simp) rfl).2 _ rfl _ rfl
        have q76 : a.tmps.getD 76 undef = .bool true := q76
        have q79 := (hdep ⟨26, .data⟩ (by simp) rfl).2 _ rfl _ rfl
        have q79 : a.tmps.getD 79 undef = .bool true := q79
        clear hsz hdep hout hun
        go_simp
        exact hK _ (by exact hI)
      · rw [if_pos (by rfl)]
        intro K hK
        have q80 := (hdep ⟨27, .data⟩ (by simp) rfl).2 _ rfl _ rfl
        have q80 : a.tmps.getD 80 undef = .bool true := q80
        clear hsz hdep hout hun
        go_simp
        exact hK _ (by exact hI)
      · have kg := (hdep ⟨28, .guard⟩ (by simp) rfl).2 _ rfl _ rfl
        rw [if_pos (wanted_of rfl rfl rfl kg)]
        intro K hK
        have q3 := hout 3 (outB_spec (by kernel_rfl))
        exact wp_ldr _ B r rfl q3 (R.out.ext hI) (hK _ hI)
      · have kg := (hdep ⟨28, .guard⟩ (by simp) rfl).2 _ rfl _ rfl
        rw [if_pos (wanted_of rfl rfl rfl kg)]
        intro K hK
        have q82 := (hdep ⟨29, .data⟩ (by simp) rfl).2 _ rfl _ rfl
        have q82 : a.tmps.getD 82 undef = r.V := q82
        clear hsz hdep hout hun kg
        go_simp
        refine (C18.out _).mono ?_
        rintro e w3 ⟨rfl, x3⟩
        exact hK _ (Ex.trans hI x3)
      · have kg := (hdep ⟨28, .guard⟩ (by simp) rfl).2 _ rfl _ rfl
        rw [if_pos (wanted_of rfl rfl rfl kg)]
        intro K hK
        have q3 := hout 3 (outB_spec (by kernel_rfl))
        exact wp_ldr _ B r rfl q3 (R.out.ext hI) (hK _ hI)
      · have kg := (hdep ⟨28, .guard⟩ (by simp) rfl).2 _ rfl _ rfl
        rw [if_pos (wanted_of rfl rfl rfl kg)]
        intro K hK
        have q84 := (hdep ⟨31, .data⟩ (by simp) rfl).2 _ rfl _ rfl
        have q84 : a.tmps.getD 84 undef = r.V := q84
        clear hsz hdep hout hun kg
        go_simp
        refine (C30.out _).mono ?_
        rintro e w3 ⟨rfl, x3⟩
        exact hK _ (Ex.trans hI x3)
      · have kg := (hdep ⟨28, .guard⟩ (by simp) rfl).2 _ rfl _ rfl
        rw [if_pos (wanted_of rfl rfl rfl kg)]
        intro K hK
        have q83 := (hdep ⟨30, .data⟩ (by simp) rfl).2 _ rfl _ rfl
        have q83 : a.tmps.getD 83 undef = .bool q4 := q83
        have q85 := (hdep ⟨32, .data⟩ (by simp) rfl).2 _ rfl _ rfl
        have q85 : a.tmps.getD 85 undef = .bool q4 := q85
        clear hsz hdep hout hun kg
        go_simp
        exact hK _ (by exact hI)
      · rw [if_pos (by rfl)]
        intro K hK
        have q81 := (hdep ⟨28, .data⟩ (by simp) rfl).2 _ rfl _ rfl
        have q81 : a.tmps.getD 81 undef = .bool true := q81
        have q86 := (hdep ⟨33, .data⟩ (by simp) rfl).2 _ rfl _ rfl
        have q86 : a.tmps.getD 86 undef = .bool true := q86
        clear hsz hdep hout hun
        go_simp
        exact hK _ (by exact hI)
      · rw [if_pos (by rfl)]
        intro K hK
        have q87 := (hdep ⟨34, .data⟩ (by simp) rfl).2 _ rfl _ rfl
        have q87 : a.tmps.getD 87 undef = .bool true := q87
        clear hsz hdep hout hun
        go_simp
        exact hK _ (by exact hI)
      · have kg := (hdep ⟨35, .guard⟩ (by simp) rfl).2 _ rfl _ rfl
        rw [if_pos (wanted_of rfl rfl rfl kg)]
        intro K hK
        have q3 := hout 3 (outB_spec (by kernel_rfl))
        exact wp_ldr _ B r rfl q3 (R.out.ext hI) (hK _ hI)
      · have kg := (hdep ⟨35, .guard⟩ (by simp) rfl).2 _ rfl _ rfl
        rw [if_pos (wanted_of rfl rfl rfl kg)]
        intro K hK
        have q89 := (hdep ⟨36, .data⟩ (by simp) rfl).2 _ rfl _ rfl
        have q89 : a.tmps.getD 89 undef = r.V := q89
        clear hsz hdep hout hun kg
        go_simp
        refine (C16.out _).mono ?_
        rintro e w3 ⟨rfl, x3⟩
        exact hK _ (Ex.trans hI x3)
      · have kg := (hdep ⟨35, .guard⟩ (by simp) rfl).2 _ rfl _ rfl
        rw [if_pos (wanted_of rfl rfl rfl kg)]
        intro K hK
        have q3 := hout 3 (outB_spec (by kernel_rfl))
        exact wp_ldr _ B r rfl q3 (R.out.ext hI) (hK _ hI)
      · have kg := (hdep ⟨35, .guard⟩ (by simp) rfl).2 _ rfl _ rfl
        rw [if_pos (wanted_of rfl rfl rfl kg)]
        intro K hK
        have q91 := (hdep ⟨38, .data⟩ (by simp) rfl).2 _ rfl _ rfl
        have q91 : a.tmps.getD 91 undef = r.V := q91
        clear hsz hdep hout hun kg
        go_simp
        refine (C31.out _).mono ?_
        rintro e w3 ⟨rfl, x3⟩
        exact hK _ (Ex.trans hI x3)
      · have kg := (hdep ⟨35, .guard⟩ (by simp) rfl).2 _ rfl _ rfl
        rw [if_pos (wanted_of rfl rfl rfl kg)]
        intro K hK
        have q90 := (hdep ⟨37, .data⟩ (by simp) rfl).2 _ rfl _ rfl
        have q90 : a.tmps.getD 90 undef = .int .i64 n5 := q90
        have q92 := (hdep ⟨39, .data⟩ (by simp) rfl).2 _ rfl _ rfl
        have q92 : a.tmps.getD 92 undef = .int .i64 n5 := q92
        clear hsz hdep hout hun kg
        go_simp
        exact hK _ (by exact hI)
      · rw [if_pos (by rfl)]
        intro K hK
        have q88 := (hdep ⟨35, .data⟩ (by simp) rfl).2 _ rfl _ rfl
        have q88 : a.tmps.getD 88 undef = .bool true := q88
        have q93 := (hdep ⟨40, .data⟩ (by simp) rfl).2 _ rfl _ rfl
        have q93 : a.tmps.getD 93 undef = .bool true := q93
        clear hsz hdep hout hun
        go_simp
        exact hK _ (by exact hI)
      · rw [if_pos (by rfl)]
        intro K hK
        have q94 := (hdep ⟨41, .data⟩ (by simp) rfl).2 _ rfl _ rfl
        have q94 : a.tmps.getD 94 undef = .bool true := q94
        clear hsz hdep hout hun
        go_simp
        exact hK _ (by exact hI)
      · have kg := (hdep ⟨42, .guard⟩ (by simp) rfl).2 _ rfl _ rfl
        rw [if_pos (wanted_of rfl rfl rfl kg)]
        intro K hK
        have q3 := hout 3 (outB_spec (by kernel_rfl))
        exact wp_ldr _ B r rfl q3 (R.out.ext hI) (hK _ hI)
      · have kg := (hdep ⟨42, .guard⟩ (by simp) rfl).2 _ rfl _ rfl
        rw [if_pos (wanted_of rfl rfl rfl kg)]
        intro K hK
        have q4 := hout 4 (outB_spec (by kernel_rfl))
        exact wp_ldr _ (B + 1) s rfl q4 (S.out.ext hI) (hK _ hI)
      · have kg := (hdep ⟨42, .guard⟩ (by simp) rfl).2 _ rfl _ rfl
        rw [if_pos (wanted_of rfl rfl rfl kg)]
        intro K hK
        have q96 := (hdep ⟨43, .data⟩ (by simp) rfl).2 _ rfl _ rfl
        have q96 : a.tmps.getD 96 undef = r.V := q96
        have q97 := (hdep ⟨44, .data⟩ (by simp) rfl).2 _ rfl _ rfl
        have q97 : a.tmps.getD 97 undef = s.V := q97
        clear hsz hdep hout hun kg
        go_simp
        refine (C17.out _).mono ?_
        rintro e w3 ⟨rfl, x3⟩
        exact hK _ (Ex.trans hI x3)
      · have kg := (hdep ⟨42, .guard⟩ (by simp) rfl).2 _ rfl _ rfl
        rw [if_pos (wanted_of rfl rfl rfl kg)]
        intro K hK
        have q3 := hout 3 (outB_spec (by kernel_rfl))
        clear hsz hdep hout hun kg
        go_simp
        exact hK _ (by exact hI)
      · have kg := (hdep ⟨42, .guard⟩ (by simp) rfl).2 _ rfl _ rfl
        rw [if_pos (wanted_of rfl rfl rfl kg)]
        intro K hK
        have q99 := (hdep ⟨46, .data⟩ (by simp) rfl).2 _ rfl _ rfl
        have q99 : a.tmps.getD 99 undef = .pointer (some ⟨B, 0, none⟩) := q99
        have f1 : w2.cell? ⟨B, 0, none⟩ = some (.int .u64 r.b) := ((R.out.ext hI).2.cell 0).trans (by simpa using r.at0)
        clear hsz hdep hout hun kg
        go_simp
        exact hK _ hI
      · have kg := (hdep ⟨42, .guard⟩ (by simp) rfl).2 _ rfl _ rfl
        rw [if_pos (wanted_of rfl rfl rfl kg)]
        intro K hK
        have q4 := hout 4 (outB_spec (by kernel_rfl))
        clear hsz hdep hout hun kg
        go_simp
        exact hK _ (by exact hI)
      · have kg := (hdep ⟨42, .guard⟩ (by simp) rfl).2 _ rfl _ rfl
        rw [if_pos (wanted_of rfl rfl rfl kg)]
        intro K hK
        have q101 := (hdep ⟨48, .data⟩ (by simp) rfl).2 _ rfl _ rfl
        have q101 : a.tmps.getD 101 undef = .pointer (some ⟨B + 1, 0, none⟩) := q101
        have f1 : w2.cell? ⟨B + 1, 0, none⟩ = some (.int .u64 s.b) := ((S.out.ext hI).2.cell 0).trans (by simpa using s.at0)
        clear hsz hdep hout hun kg
        go_simp
        exact hK _ hI
      · have kg := (hdep ⟨42, .guard⟩ (by simp) rfl).2 _ rfl _ rfl
        rw [if_pos (wanted_of rfl rfl rfl kg)]
        intro K hK
        have q100 := (hdep ⟨47, .data⟩ (by simp) rfl).2 _ rfl _ rfl
        have q100 : a.tmps.getD 100 undef = .int .u64 r.b := q100
        have q102 := (hdep ⟨49, .data⟩ (by simp) rfl).2 _ rfl _ rfl
        have q102 : a.tmps.getD 102 undef = .int .u64 s.b := q102
        clear hsz hdep hout hun kg
        go_simp
        exact hK _ (by exact hI)
      · have kg := (hdep ⟨42, .guard⟩ (by simp) rfl).2 _ rfl _ rfl
        rw [if_pos (wanted_of rfl rfl rfl kg)]
        intro K hK
        have q103 := (hdep ⟨50, .data⟩ (by simp) rfl).2 _ rfl _ rfl
        have q103 : a.tmps.getD 103 undef = .bool true := q103
        clear hsz hdep hout hun kg
        go_simp
        exact hK _ (by exact hI)
      · have kg := (hdep ⟨51, .guard⟩ (by simp) rfl).2 _ rfl _ rfl
        rw [if_neg (not_wanted rfl rfl rfl kg (by decide))]
        exact ⟨rfl, by exact hI⟩
      · have kg := (hdep ⟨51, .guard⟩ (by simp) rfl).2 _ rfl _ rfl
        rw [if_neg (not_wanted rfl rfl rfl kg (by decide))]
        exact ⟨rfl, by exact hI⟩
      · have kg := (hdep ⟨51, .guard⟩ (by simp) rfl).2 _ rfl _ rfl
        rw [if_neg (not_wanted rfl rfl rfl kg (by decide))]
        exact ⟨rfl, by exact hI⟩
      · have kg := (hdep ⟨51, .guard⟩ (by simp) rfl).2 _ rfl _ rfl
        rw [if_neg (not_wanted rfl rfl rfl kg (by decide))]
        exact ⟨rfl, by exact hI⟩
      · have kg := (hdep ⟨51, .guard⟩ (by simp) rfl).2 _ rfl _ rfl
        rw [if_neg (not_wanted rfl rfl rfl kg (by decide))]
        exact ⟨rfl, by exact hI⟩
      · have kg := (hdep ⟨42, .guard⟩ (by simp) rfl).2 _ rfl _ rfl
        rw [if_pos (wanted_of rfl rfl rfl kg)]
        intro K hK
        have q104 := (hdep ⟨51, .data⟩ (by simp) rfl).2 _ rfl _ rfl
        have q104 : a.tmps.getD 104 undef = .bool true := q104
        have q109 := (hdep ⟨56, .data⟩ (by simp) rfl).2 _ rfl _ rfl
        have q109 : a.tmps.getD 109 undef = undef := q109
        clear hsz hdep hout hun kg
        go_simp
        exact hK _ (by exact hI)
      · have kg := (hdep ⟨42, .guard⟩ (by simp) rfl).2 _ rfl _ rfl
        rw [if_pos (wanted_of rfl rfl rfl kg)]
        intro K hK
        have q98 := (hdep ⟨45, .data⟩ (by simp) rfl).2 _ rfl _ rfl
        have q98 : a.tmps.getD 98 undef = .bool true := q98
        have q110 := (hdep ⟨57, .data⟩ (by simp) rfl).2 _ rfl _ rfl
        have q110 : a.tmps.getD 110 undef = .bool true := q110
        clear hsz hdep hout hun kg
        go_simp
        exact hK _ (by exact hI)
      · rw [if_pos (by rfl)]
        intro K hK
        have q95 := (hdep ⟨42, .data⟩ (by simp) rfl).2 _ rfl _ rfl
        have q95 : a.tmps.getD 95 undef = .bool true := q95
        have q111 := (hdep ⟨58, .data⟩ (by simp) rfl).2 _ rfl _ rfl
        have q111 : a.tmps.getD 111 undef = .bool true := q111
        clear hsz hdep hout hun
        go_simp
        exact hK _ (by exact hI)
      · rw [if_pos (by rfl)]
        intro K hK
        have q112 := (hdep ⟨59, .data⟩ (by simp) rfl).2 _ rfl _ rfl
        have q112 : a.tmps.getD 112 undef = .bool true := q112
        clear hsz hdep hout hun
        go_simp
        exact hK _ (by exact hI)
    · intro l a w4 hall hI hdef hsz h1 h2
      have f6 : a.tmps[6]?.getD undef = .bool true := by
        rw [← Array.getD_eq_getD_getElem?, h1 60 _ rfl 6 rfl, hV]; rfl
      have fd : a.defers = [] := hdef
      clear h1 h2 hV hall hsz hdef
      have bw4 : Below w.heap.size w w4 := bw.trans (Below.mono hI bw.size)
      go_wp2_with fail
      exact bodyPost_ret (v := .bool true) (by simp [results, Try.results11, go_sem, f6]) fd ⟨rfl, bw4⟩
  · have hb2 : (decide (r.b < s.b) || decide (r.c < s.c)) = decide (r.c < s.c) := by simp [hb]
    rw [hb2] at C17
    clear hb2
    have hb4 : decide (r.b < s.b) = false := by simp; omega
    clear hb
    obtain ⟨V, hV⟩ : ∃ V : List Value, V = [k1.V, k1.V, .bool true, .bool true, .bool q1, .bool q1, .bool true, .bool true, .bool true, k2.V, k2.V, .bool true, .bool true, .bool true, .bool q2, .bool q2, .bool true, .bool true, .bool true, k3.V, k3.V, .bool true, .bool true, .bool true, .bool q3, .bool q3, .bool true, .bool true, .bool true, r.V, .bool q4, r.V, .bool q4, .bool true, .bool true, .bool true, r.V, .int .i64 n5, r.V, .int .i64 n5, .bool true, .bool true, .bool true, r.V, s.V, .bool (decide (r.c < s.c)), .pointer (some ⟨B, 0, none⟩), .int .u64 r.b, .pointer (some ⟨B + 1, 0, none⟩), .int .u64 s.b, .bool false, .bool false, .pointer (some ⟨B, 1, none⟩), .int .u64 r.c, .pointer (some ⟨B + 1, 1, none⟩), .int .u64 s.c, .bool (decide (r.c < s.c)), .bool (decide (r.c < s.c)), .bool true, .bool true, .bool true] := ⟨_, rfl⟩
    refine wp_region_inv (fun i => V.getD i undef) (fun _ w2 => Ex wr w2) (by kernel_rfl) (by kernel_rfl) (by kernel_rfl) (fitB_spec (by kernel_rfl)) ?_ ?_ ?_
    · intro l h0
      exact (Below.refl _ _).drew
    · intro i o ho
      have hi : i < 61 := (Array.getElem?_eq_some_iff.1 ho).1
      have hi' : i = 0 ∨ i = 1 ∨ i = 2 ∨ i = 3 ∨ i = 4 ∨ i = 5 ∨ i = 6 ∨ i = 7 ∨ i = 8 ∨ i = 9 ∨ i = 10 ∨ i = 11 ∨ i = 12 ∨ i = 13 ∨ i = 14 ∨ i = 15 ∨ i = 16 ∨ i = 17 ∨ i = 18 ∨ i = 19 ∨ i = 20 ∨ i = 21 ∨ i = 22 ∨ i = 23 ∨ i = 24 ∨ i = 25 ∨ i = 26 ∨ i = 27 ∨ i = 28 ∨ i = 29 ∨ i = 30 ∨ i = 31 ∨ i = 32 ∨ i = 33 ∨ i = 34 ∨ i = 35 ∨ i = 36 ∨ i = 37 ∨ i = 38 ∨ i = 39 ∨ i = 40 ∨ i = 41 ∨ i = 42 ∨ i = 43 ∨ i = 44 ∨ i = 45 ∨ i = 46 ∨ i = 47 ∨ i = 48 ∨ i = 49 ∨ i = 50 ∨ i = 51 ∨ i = 52 ∨ i = 53 ∨ i = 54 ∨ i = 55 ∨ i = 56 ∨ i = 57 ∨ i = 58 ∨ i = 59 ∨ i = 60 := by omega
      clear hi
      rcases hi' with rfl | rfl | rfl | rfl | rfl | rfl | rfl | rfl | rfl | rfl | rfl | rfl | rfl | rfl | rfl | rfl | rfl | rfl | rfl | rfl | rfl | rfl | rfl | rfl | rfl | rfl | rfl | rfl | rfl | rfl | rfl | rfl | rfl | rfl | rfl | rfl | rfl | rfl | rfl | rfl | rfl | rfl | rfl | rfl | rfl | rfl | rfl | rfl | rfl | rfl | rfl | rfl | rfl | rfl | rfl | rfl | rfl | rfl | rfl | rfl | rfl
      all_goals (simp only [List.getElem?_toArray, List.getElem?_cons_zero, List.getElem?_cons_succ, Option.some.injEq] at ho; subst ho hV; intro listed a w2 hI hsz hls hun hdep hout)
      · rw [if_pos (by rfl)]
        intro K hK
        have q7 := hout 7 (outB_spec (by kernel_rfl))
        exact wp_ldr _ g1 k1 rfl q7 (A1.out.ext hI) (hK _ hI)
      · rw [if_pos (by rfl)]
        intro K hK
        have q9 := hout 9 (outB_spec (by kernel_rfl))
        exact wp_ldr _ g2 k1 rfl q9 (A2.out.ext hI) (hK _ hI)
      · rw [if_pos (by rfl)]
        intro K hK
        have q53 := (hdep ⟨0, .data⟩ (by simp) rfl).2 _ rfl _ rfl
        have q53 : a.tmps.getD 53 undef = k1.V := q53
        have q54 := (hdep ⟨1, .data⟩ (by simp) rfl).2 _ rfl _ rfl
        have q54 : a.tmps.getD 54 undef = k1.V := q54
        exact wp_eql_reg _ _ _ rfl k1 L1.out q53 q54 (hK _ hI)
      · rw [if_pos (by rfl)]
        intro K hK
        have q55 := (hdep ⟨2, .data⟩ (by simp) rfl).2 _ rfl _ rfl
        have q55 : a.tmps.getD 55 undef = .bool true := q55
        clear hsz hdep hout hun
        go_simp
        exact hK _ (by exact hI)
      · have kg := (hdep ⟨3, .guard⟩ (by simp) rfl).2 _ rfl _ rfl
        rw [if_pos (wanted_of rfl rfl rfl kg)]
        intro K hK
        have q8 := hout 8 (outB_spec (by kernel_rfl))
        clear hsz hdep hout hun kg
        go_simp
        exact hK _ (by exact hI)
      · have kg := (hdep ⟨3, .guard⟩ (by simp) rfl).2 _ rfl _ rfl
        rw [if_pos (wanted_of rfl rfl rfl kg)]
        intro K hK
        have q10 := hout 10 (outB_spec (by kernel_rfl))
        clear hsz hdep hout hun kg
        go_simp
        exact hK _ (by exact hI)
      · have kg := (hdep ⟨3, .guard⟩ (by simp) rfl).2 _ rfl _ rfl
        rw [if_pos (wanted_of rfl rfl rfl kg)]
        intro K hK
        have q57 := (hdep ⟨4, .data⟩ (by simp) rfl).2 _ rfl _ rfl
        have q57 : a.tmps.getD 57 undef = .bool q1 := q57
        have q58 := (hdep ⟨5, .data⟩ (by simp) rfl).2 _ rfl _ rfl
        have q58 : a.tmps.getD 58 undef = .bool q1 := q58
        clear hsz hdep hout hun kg
        go_simp
        exact hK _ (by exact hI)
      · rw [if_pos (by rfl)]
        intro K hK
        have q56 := (hdep ⟨3, .data⟩ (by simp) rfl).2 _ rfl _ rfl
        have q56 : a.tmps.getD 56 undef = .bool true := q56
        have q59 := (hdep ⟨6, .data⟩ (by simp) rfl).2 _ rfl _ rfl
        have q59 : a.tmps.getD 59 undef = .bool true := q59
        clear hsz hdep hout hun
        go_simp
        exact hK _ (by exact hI)
      · rw [if_pos (by rfl)]
        intro K hK
        have q60 := (hdep ⟨7, .data⟩ (by simp) rfl).2 _ rfl _ rfl
        have q60 : a.tmps.getD 60 undef = .bool true := q60
        clear hsz hdep hout hun
        go_simp
        exact hK _ (by exact hI)
      · have kg := (hdep ⟨8, .guard⟩ (by simp) rfl).2 _ rfl _ rfl
        rw [if_pos (wanted_of rfl rfl rfl kg)]
        intro K hK
        have q11 := hout 11 (outB_spec (by kernel_rfl))
        exact wp_ldr _ g3 k2 rfl q11 (A3.out.ext hI) (hK _ hI)
      · have kg := (hdep ⟨8, .guard⟩ (by simp) rfl).2 _ rfl _ rfl
        rw [if_pos (wanted_of rfl rfl rfl kg)]
        intro K hK
        have q13 := hout 13 (outB_spec (by kernel_rfl))
        exact wp_ldr _ g4 k2 rfl q13 (A4.out.ext hI) (hK _ hI)
      · have kg := (hdep ⟨8, .guard⟩ (by simp) rfl).2 _ rfl _ rfl
        rw [if_pos (wanted_of rfl rfl rfl kg)]
        intro K hK
        have q62 := (hdep ⟨9, .data⟩ (by simp) rfl).2 _ rfl _ rfl
        have q62 : a.tmps.getD 62 undef = k2.V := q62
        have q63 := (hdep ⟨10, .data⟩ (by simp) rfl).2 _ rfl _ rfl
        have q63 : a.tmps.getD 63 undef = k2.V := q63
        exact wp_eql_reg _ _ _ rfl k2 L2.out q62 q63 (hK _ hI)
      · rw [if_pos (by rfl)]
        intro K hK
        have q61 := (hdep ⟨8, .data⟩ (by simp) rfl).2 _ rfl _ rfl
        have q61 : a.tmps.getD 61 undef = .bool true := q61
        have q64 := (hdep ⟨11, .data⟩ (by simp) rfl).2 _ rfl _ rfl
        have q64 : a.tmps.getD 64 undef = .bool true := q64
        clear hsz hdep hout hun
        go_simp
        exact hK _ (by exact hI)
      · rw [if_pos (by rfl)]
        intro K hK
        have q65 := (hdep ⟨12, .data⟩ (by simp) rfl).2 _ rfl _ rfl
        have q65 : a.tmps.getD 65 undef = .bool true := q65
        clear hsz hdep hout hun
        go_simp
        exact hK _ (by exact hI)
      · have kg := (hdep ⟨13, .guard⟩ (by simp) rfl).2 _ rfl _ rfl
        rw [if_pos (wanted_of rfl rfl rfl kg)]
        intro K hK
        have q12 := hout 12 (outB_spec (by kernel_rfl))
        clear hsz hdep hout hun kg
        go_simp
        exact hK _ (by exact hI)
      · have kg := (hdep ⟨13, .guard⟩ (by simp) rfl).2 _ rfl _ rfl
        rw [if_pos (wanted_of rfl rfl rfl kg)]
        intro K hK
        have q14 := hout 14 (outB_spec (by kernel_rfl))
        clear hsz hdep hout hun kg
        go_simp
        exact hK _ (by exact hI)
      · have kg := (hdep ⟨13, .guard⟩ (by simp) rfl).2 _ rfl _ rfl
        rw [if_pos (wanted_of rfl rfl rfl kg)]
        intro K hK
        have q67 := (hdep ⟨14, .data⟩ (by simp) rfl).2 _ rfl _ rfl
        have q67 : a.tmps.getD 67 undef = .bool q2 := q67
        have q68 := (hdep ⟨15, .data⟩ (by simp) rfl).2 _ rfl _ rfl
        have q68 : a.tmps.getD 68 undef = .bool q2 := q68
        clear hsz hdep hout hun kg
        go_simp
        exact hK _ (by exact hI)
      · rw [if_pos (by rfl)]
        intro K hK
        have q66 := (hdep ⟨13, .data⟩ (by simp) rfl).2 _ rfl _ rfl
        have q66 : a.tmps.getD 66 undef = .bool true := q66
        have q69 := (hdep ⟨16, .data⟩ (by simp) rfl).2 _ rfl _ rfl
        have q69 : a.tmps.getD 69 undef = .bool true := q69
        clear hsz hdep hout hun
        go_simp
        exact hK _ (by exact hI)
      · rw [if_pos (by rfl)]
        intro K hK
        have q70 := (hdep ⟨17, .data⟩ (by simp) rfl).2 _ rfl _ rfl
        have q70 : a.tmps.getD 70 undef = .bool true := q70
        clear hsz hdep hout hun
        go_simp
        exact hK _ (by exact hI)
      · have kg := (hdep ⟨18, .guard⟩ (by simp) rfl).2 _ rfl _ rfl
        rw [if_pos (wanted_of rfl rfl rfl kg)]
        intro K hK
        have q15 := hout 15 (outB_spec (by kernel_rfl))
        exact wp_ldr _ g5 k3 rfl q15 (A5.out.ext hI) (hK _ hI)
      · have kg := (hdep ⟨18, .guard⟩ (by simp) rfl).2 _ rfl _ rfl
        rw [if_pos (wanted_of rfl rfl rfl kg)]
        intro K hK
        have q17 := hout 17 (outB_spec (by kernel_rfl))
        exact wp_ldr _ g6 k3 rfl q17 (A6.out.ext hI) (hK _ hI)
      · have kg := (hdep ⟨18, .guard⟩ (by simp) rfl).2 _ rfl _ rfl
        rw [if_pos (wanted_of rfl rfl rfl kg)]
        intro K hK
        have q72 := (hdep ⟨19, .data⟩ (by simp) rfl).2 _ rfl _ rfl
        have q72 : a.tmps.getD 72 undef = k3.V := q72
        have q73 := (hdep ⟨20, .data⟩ (by simp) rfl).2 _ rfl _ rfl
        have q73 : a.tmps.getD 73 undef = k3.V := q73
        exact wp_eql_reg _ _ _ rfl k3 L3.out q72 q73 (hK _ hI)
      · rw [if_pos (by rfl)]
        intro K hK
        have q71 := (hdep ⟨18, .data⟩ (by simp) rfl).2 _ rfl _ rfl
        have q71 : a.tmps.getD 71 undef = .bool true := q71
        have q74 := (hdep ⟨21, .data⟩ (by simp) rfl).2 _ rfl _ rfl
        have q74 : a.tmps.getD 74 undef = .bool true := q74
        clear hsz hdep hout hun
        go_simp
        exact hK _ (by exact hI)
      · rw [if_pos (by rfl)]
        intro K hK
        have q75 := (hdep ⟨22, .data⟩ (by simp) rfl).2 _ rfl _ rfl
        have q75 : a.tmps.getD 75 undef = .bool true := q75
        clear hsz hdep hout hun
        go_simp
        exact hK _ (by exact hI)
      · have kg := (hdep ⟨23, .guard⟩ (by simp) rfl).2 _ rfl _ rfl
        rw [if_pos (wanted_of rfl rfl rfl kg)]
        intro K hK
        have q16 := hout 16 (outB_spec (by kernel_rfl))
        clear hsz hdep hout hun kg
        go_simp
        exact hK _ (by exact hI)
      · have kg := (hdep ⟨23, .guard⟩ (by simp) rfl).2 _ rfl _ rfl
        rw [if_pos (wanted_of rfl rfl rfl kg)]
        intro K hK
        have q18 := hout 18 (outB_spec (by kernel_rfl))
        clear hsz hdep hout hun kg
        go_simp
        exact hK _ (by exact hI)
      · have kg := (hdep ⟨23, .guard⟩ (by simp) rfl).2 _ rfl _ rfl
        rw [if_pos (wanted_of rfl rfl rfl kg)]
        intro K hK
        have q77 := (hdep ⟨24, .data⟩ (by simp) rfl).2 _ rfl _ rfl
        have q77 : a.tmps.getD 77 undef = .bool q3 := q77
        have q78 := (hdep ⟨25, .data⟩ (by simp) rfl).2 _ rfl _ rfl
        have q78 : a.tmps.getD 78 undef = .bool q3 := q78
        clear hsz hdep hout hun kg
        go_simp
        exact hK _ (by exact hI)
      · rw [if_pos (by rfl)]
        intro K hK
        have q76 := (hdep ⟨23, .data⟩ (by simp) rfl).2 _ rfl _ rfl
        have q76 : a.tmps.getD 76 undef = .bool true := q76
        have q79 := (hdep ⟨26, .data⟩ (by simp) rfl).2 _ rfl _ rfl
        have q79 : a.tmps.getD 79 undef = .bool true := q79
        clear hsz hdep hout hun
        go_simp
        exact hK _ (by exact hI)
      · rw [if_pos (by rfl)]
        intro K hK
        have q80 := (hdep ⟨27, .data⟩ (by simp) rfl).2 _ rfl _ rfl
        have q80 : a.tmps.getD 80 undef = .bool true := q80
        clear hsz hdep hout hun
        go_simp
        exact hK _ (by exact hI)
      · have kg := (hdep ⟨28, .guard⟩ (by simp) rfl).2 _ rfl _ rfl
        rw [if_pos (wanted_of rfl rfl rfl kg)]
        intro K hK
        have q3 := hout 3 (outB_spec (by kernel_rfl))
        exact wp_ldr _ B r rfl q3 (R.out.ext hI) (hK _ hI)
      · have kg := (hdep ⟨28, .guard⟩ (by simp) rfl).2 _ rfl _ rfl
        rw [if_pos (wanted_of rfl rfl rfl kg)]
        intro K hK
        have q82 := (hdep ⟨29, .data⟩ (by simp) rfl).2 _ rfl _ rfl
        have q82 : a.tmps.getD 82 undef = r.V := q82
        clear hsz hdep hout hun kg
        go_simp
        refine (C18.out _).mono ?_
        rintro e w3 ⟨rfl, x3⟩
        exact hK _ (Ex.trans hI x3)
      · have kg := (hdep ⟨28, .guard⟩ (by simp) rfl).2 _ rfl _ rfl
        rw [if_pos (wanted_of rfl rfl rfl kg)]
        intro K hK
        have q3 := hout 3 (outB_spec (by kernel_rfl))
        exact wp_ldr _ B r rfl q3 (R.out.ext hI) (hK _ hI)
      · have kg := (hdep ⟨28, .guard⟩ (by simp) rfl).2 _ rfl _ rfl
        rw [if_pos (wanted_of rfl rfl rfl kg)]
        intro K hK
        have q84 := (hdep ⟨31, .data⟩ (by simp) rfl).2 _ rfl _ rfl
        have q84 : a.tmps.getD 84 undef = r.V := q84
        clear hsz hdep hout hun kg
        go_simp
        refine (C30.out _).mono ?_
        rintro e w3 ⟨rfl, x3⟩
        exact hK _ (Ex.trans hI x3)
      · have kg := (hdep ⟨28, .guard⟩ (by simp) rfl).2 _ rfl _ rfl
        rw [if_pos (wanted_of rfl rfl rfl kg)]
        intro K hK
        have q83 := (hdep ⟨30, .data⟩ (by simp) rfl).2 _ rfl _ rfl
        have q83 : a.tmps.getD 83 undef = .bool q4 := q83
        have q85 := (hdep ⟨32, .data⟩ (by simp) rfl).2 _ rfl _ rfl
        have q85 : a.tmps.getD 85 undef = .bool q4 := q85
        clear hsz hdep hout hun kg
        go_simp
        exact hK _ (by exact hI)
      · rw [if_pos (by rfl)]
        intro K hK
        have q81 := (hdep ⟨28, .data⟩ (by simp) rfl).2 _ rfl _ rfl
        have q81 : a.tmps.getD 81 undef = .bool true := q81
        have q86 := (hdep ⟨33, .data⟩ (by simp) rfl).2 _ rfl _ rfl
        have q86 : a.tmps.getD 86 undef = .bool true := q86
        clear hsz hdep hout hun
        go_simp
        exact hK _ (by exact hI)
      · rw [if_pos (by rfl)]
        intro K hK
        have q87 := (hdep ⟨34, .data⟩ (by simp) rfl).2 _ rfl _ rfl
        have q87 : a.tmps.getD 87 undef = .bool true := q87
        clear hsz hdep hout hun
        go_simp
        exact hK _ (by exact hI)
      · have kg := (hdep ⟨35, .guard⟩ (by simp) rfl).2 _ rfl _ rfl
        rw [if_pos (wanted_of rfl rfl rfl kg)]
        intro K hK
        have q3 := hout 3 (outB_spec (by kernel_rfl))
        exact wp_ldr _ B r rfl q3 (R.out.ext hI) (hK _ hI)
      · have kg := (hdep ⟨35, .guard⟩ (by simp) rfl).2 _ rfl _ rfl
        rw [if_pos (wanted_of rfl rfl rfl kg)]
        intro K hK
        have q89 := (hdep ⟨36, .data⟩ (by simp) rfl).2 _ rfl _ rfl
        have q89 : a.tmps.getD 89 undef = r.V := q89
        clear hsz hdep hout hun kg
        go_simp
        refine (C16.out _).mono ?_
        rintro e w3 ⟨rfl, x3⟩
        exact hK _ (Ex.trans hI x3)
      · have kg := (hdep ⟨35, .guard⟩ (by simp) rfl).2 _ rfl _ rfl
        rw [if_pos (wanted_of rfl rfl rfl kg)]
        intro K hK
        have q3 := hout 3 (outB_spec (by kernel_rfl))
        exact wp_ldr _ B r rfl q3 (R.out.ext hI) (hK _ hI)
      · have kg := (hdep ⟨35, .guard⟩ (by simp) rfl).2 _ rfl _ rfl
        rw [if_pos (wanted_of rfl rfl rfl kg)]
        intro K hK
        have q91 := (hdep ⟨38, .data⟩ (by simp) rfl).2 _ rfl _ rfl
        have q91 : a.tmps.getD 91 undef = r.V := q91
        clear hsz hdep hout hun kg
        go_simp
        refine (C31.out _).mono ?_
        rintro e w3 ⟨rfl, x3⟩
        exact hK _ (Ex.trans hI x3)
      · have kg := (hdep ⟨35, .guard⟩ (by simp) rfl).2 _ rfl _ rfl
        rw [if_pos (wanted_of rfl rfl rfl kg)]
        intro K hK
        have q90 := (hdep ⟨37, .data⟩ (by simp) rfl).2 _ rfl _ rfl
        have q90 : a.tmps.getD 90 undef = .int .i64 n5 := q90
        have q92 := (hdep ⟨39, .data⟩ (by simp) rfl).2 _ rfl _ rfl
        have q92 : a.tmps.getD 92 undef = .int .i64 n5 := q92
        clear hsz hdep hout hun kg
        go_simp
        exact hK _ (by exact hI)
      · rw [if_pos (by rfl)]
        intro K hK
        have q88 := (hdep ⟨35, .data⟩ (by simp) rfl).2 _ rfl _ rfl
        have q88 : a.tmps.getD 88 undef = .bool true := q88
        have q93 := (hdep ⟨40, .data⟩ (by simp) rfl).2 _ rfl _ rfl
        have q93 : a.tmps.getD 93 undef = .bool true := q93
        clear hsz hdep hout hun
        go_simp
        exact hK _ (by exact hI)
      · rw [if_pos (by rfl)]
        intro K hK
        have q94 := (hdep ⟨41, .data⟩ (by simp) rfl).2 _ rfl _ rfl
        have q94 : a.tmps.getD 94 undef = .bool true := q94
        clear hsz hdep hout hun
        go_simp
        exact hK _ (by exact hI)
      · have kg := (hdep ⟨42, .guard⟩ (by simp) rfl).2 _ rfl _ rfl
        rw [if_pos (wanted_of rfl rfl rfl kg)]
        intro K hK
        have q3 := hout 3 (outB_spec (by kernel_rfl))
        exact wp_ldr _ B r rfl q3 (R.out.ext hI) (hK _ hI)
      · have kg := (hdep ⟨42, .guard⟩ (by simp) rfl).2 _ rfl _ rfl
        rw [if_pos (wanted_of rfl rfl rfl kg)]
        intro K hK
        have q4 := hout 4 (outB_spec (by kernel_rfl))
        exact wp_ldr _ (B + 1) s rfl q4 (S.out.ext hI) (hK _ hI)
      · have kg := (hdep ⟨42, .guard⟩ (by simp) rfl).2 _ rfl _ rfl
        rw [if_pos (wanted_of rfl rfl rfl kg)]
        intro K hK
        have q96 := (hdep ⟨43, .data⟩ (by simp) rfl).2 _ rfl _ rfl
        have q96 : a.tmps.getD 96 undef = r.V := q96
        have q97 := (hdep ⟨44, .data⟩ (by simp) rfl).2 _ rfl _ rfl
        have q97 : a.tmps.getD 97 undef = s.V := q97
        clear hsz hdep hout hun kg
        go_simp
        refine (C17.out _).mono ?_
        rintro e w3 ⟨rfl, x3⟩
        exact hK _ (Ex.trans hI x3)
      · have kg := (hdep ⟨42, .guard⟩ (by simp) rfl).2 _ rfl _ rfl
        rw [if_pos (wanted_of rfl rfl rfl kg)]
        intro K hK
        have q3 := hout 3 (outB_spec (by kernel_rfl))
        clear hsz hdep hout hun kg
        go_simp
        exact hK _ (by exact hI)
      · have kg := (hdep ⟨42, .guard⟩ (by simp) rfl).2 _ rfl _ rfl
        rw [if_pos (wanted_of rfl rfl rfl kg)]
        intro K hK
        have q99 := (hdep ⟨46, .data⟩ (by simp) rfl).2 _ rfl _ rfl
        have q99 : a.tmps.getD 99 undef = .pointer (some ⟨B, 0, none⟩) := q99
        have f1 : w2.cell? ⟨B, 0, none⟩ = some (.int .u64 r.b) := ((R.out.ext hI).2.cell 0).trans (by simpa using r.at0)
        clear hsz hdep hout hun kg
        go_simp
        exact hK _ hI
      · have kg := (hdep ⟨42, .guard⟩ (by simp) rfl).2 _ rfl _ rfl
        rw [if_pos (wanted_of rfl rfl rfl kg)]
        intro K hK
        have q4 := hout 4 (outB_spec (by kernel_rfl))
        clear hsz hdep hout hun kg
        go_simp
        exact hK _ (by exact hI)
      · have kg := (hdep ⟨42, .guard⟩ (by simp) rfl).2 _ rfl _ rfl
        rw [if_pos (wanted_of rfl rfl rfl kg)]
        intro K hK
        have q101 := (hdep ⟨48, .data⟩ (by simp) rfl).2 _ rfl _ rfl
        have q101 : a.tmps.getD 101 undef = .pointer (some ⟨B + 1, 0, none⟩) := q101
        have f1 : w2.cell? ⟨B + 1, 0, none⟩ = some (.int .u64 s.b) := ((S.out.ext hI).2.cell 0).trans (by simpa using s.at0)
        clear hsz hdep hout hun kg
        go_simp
        exact hK _ hI
      · have kg := (hdep ⟨42, .guard⟩ (by simp) rfl).2 _ rfl _ rfl
        rw [if_pos (wanted_of rfl rfl rfl kg)]
        intro K hK
        have q100 := (hdep ⟨47, .data⟩ (by simp) rfl).2 _ rfl _ rfl
        have q100 : a.tmps.getD 100 undef = .int .u64 r.b := q100
        have q102 := (hdep ⟨49, .data⟩ (by simp) rfl).2 _ rfl _ rfl
        have q102 : a.tmps.getD 102 undef = .int .u64 s.b := q102
        clear hsz hdep hout hun kg
        go_simp
        exact hK _ (by exact hI)
      · have kg := (hdep ⟨42, .guard⟩ (by simp) rfl).2 _ rfl _ rfl
        rw [if_pos (wanted_of rfl rfl rfl kg)]
        intro K hK
        have q103 := (hdep ⟨50, .data⟩ (by simp) rfl).2 _ rfl _ rfl
        have q103 : a.tmps.getD 103 undef = .bool false := q103
        clear hsz hdep hout hun kg
        go_simp
        exact hK _ (by exact hI)
      · have kg := (hdep ⟨51, .guard⟩ (by simp) rfl).2 _ rfl _ rfl
        rw [if_pos (wanted_of rfl rfl rfl kg)]
        intro K hK
        have q3 := hout 3 (outB_spec (by kernel_rfl))
        clear hsz hdep hout hun kg
        go_simp
        exact hK _ (by exact hI)
      · have kg := (hdep ⟨51, .guard⟩ (by simp) rfl).2 _ rfl _ rfl
        rw [if_pos (wanted_of rfl rfl rfl kg)]
        intro K hK
        have q105 := (hdep ⟨52, .data⟩ (by simp) rfl).2 _ rfl _ rfl
        have q105 : a.tmps.getD 105 undef = .pointer (some ⟨B, 1, none⟩) := q105
        have f1 : w2.cell? ⟨B, 1, none⟩ = some (.int .u64 r.c) := ((R.out.ext hI).2.cell 1).trans (by simpa using r.at1)
        clear hsz hdep hout hun kg
        go_simp
        exact hK _ hI
      · have kg := (hdep ⟨51, .guard⟩ (by simp) rfl).2 _ rfl _ rfl
        rw [if_pos (wanted_of rfl rfl rfl kg)]
        intro K hK
        have q4 := hout 4 (outB_spec (by kernel_rfl))
        clear hsz hdep hout hun kg
        go_simp
        exact hK _ (by exact hI)
      · have kg := (hdep ⟨51, .guard⟩ (by simp) rfl).2 _ rfl _ rfl
        rw [if_pos (wanted_of rfl rfl rfl kg)]
        intro K hK
        have q107 := (hdep ⟨54, .data⟩ (by simp) rfl).2 _ rfl _ rfl
        have q107 : a.tmps.getD 107 undef = .pointer (some ⟨B + 1, 1, none⟩) := q107
        have f1 : w2.cell? ⟨B + 1, 1, none⟩ = some (.int .u64 s.c) := ((S.out.ext hI).2.cell 1).trans (by simpa using s.at1)
        clear hsz hdep hout hun kg
        go_simp
        exact hK _ hI
      · have kg := (hdep ⟨51, .guard⟩ (by simp) rfl).2 _ rfl _ rfl
        rw [if_pos (wanted_of rfl rfl rfl kg)]
        intro K hK
        have q106 := (hdep ⟨53, .data⟩ (by simp) rfl).2 _ rfl _ rfl
        have q106 : a.tmps.getD 106 undef = .int .u64 r.c := q106
        have q108 := (hdep ⟨55, .data⟩ (by simp) rfl).2 _ rfl _ rfl
        have q108 : a.tmps.getD 108 undef = .int .u64 s.c := q108
        clear hsz hdep hout hun kg
        go_simp
        exact hK _ (by exact hI)
      · have kg := (hdep ⟨42, .guard⟩ (by simp) rfl).2 _ rfl _ rfl
        rw [if_pos (wanted_of rfl rfl rfl kg)]
        intro K hK
        have q104 := (hdep ⟨51, .data⟩ (by simp) rfl).2 _ rfl _ rfl
        have q104 : a.tmps.getD 104 undef = .bool false := q104
        have q109 := (hdep ⟨56, .data⟩ (by simp) rfl).2 _ rfl _ rfl
        have q109 : a.tmps.getD 109 undef = .bool (decide (r.c < s.c)) := q109
        clear hsz hdep hout hun kg
        go_simp
        exact hK _ (by exact hI)
      · have kg := (hdep ⟨42, .guard⟩ (by simp) rfl).2 _ rfl _ rfl
        rw [if_pos (wanted_of rfl rfl rfl kg)]
        intro K hK
        have q98 := (hdep ⟨45, .data⟩ (by simp) rfl).2 _ rfl _ rfl
        have q98 : a.tmps.getD 98 undef = .bool (decide (r.c < s.c)) := q98
        have q110 := (hdep ⟨57, .data⟩ (by simp) rfl).2 _ rfl _ rfl
        have q110 : a.tmps.getD 110 undef = .bool (decide (r.c < s.c)) := q110
        clear hsz hdep hout hun kg
        go_simp
        exact hK _ (by exact hI)
      · rw [if_pos (by rfl)]
        intro K hK
        have q95 := (hdep ⟨42, .data⟩ (by simp) rfl).2 _ rfl _ rfl
        have q95 : a.tmps.getD 95 undef = .bool true := q95
        have q111 := (hdep ⟨58, .data⟩ (by simp) rfl).2 _ rfl _ rfl
        have q111 : a.tmps.getD 111 undef = .bool true := q111
        clear hsz hdep hout hun
        go_simp
        exact hK _ (by exact hI)
      · rw [if_pos (by rfl)]
        intro K hK
        have q112 := (hdep ⟨59, .data⟩ (by simp) rfl).2 _ rfl _ rfl
        have q112 : a.tmps.getD 112 undef = .bool true := q112
        clear hsz hdep hout hun
        go_simp
        exact hK _ (by exact hI)
    · intro l a w4 hall hI hdef hsz h1 h2
      have f6 : a.tmps[6]?.getD undef = .bool true := by
        rw [← Array.getD_eq_getD_getElem?, h1 60 _ rfl 6 rfl, hV]; rfl
      have fd : a.defers = [] := hdef
      clear h1 h2 hV hall hsz hdef
      have bw4 : Below w.heap.size w w4 := bw.trans (Below.mono hI bw.size)
      go_wp2_with fail
      exact bodyPost_ret (v := .bool true) (by simp [results, Try.results11, go_sem, f6]) fd ⟨rfl, bw4⟩
end Go.Proofs.Ytlebanghcbkejaa
