/- the list of bits of chapter 15's statements -/
import Derived.Test.YtgoiidpcdifojaaRoH
namespace Go.Proofs.Ytgoiidpcdifojaa
open Go.RowKit
set_option maxHeartbeats 4000000 in
set_option maxRecDepth 100000 in
theorem list15_any (v : Int) (b : Nat) (hb : b < 256) (w : World) : Calls Try.prog 37 #[.int .u64 v, .int .i64 b] w (ListPost v (mem8 b 8) w) := by
  have b0 := Lib.hid (show LB ((w.alloc (.cells #[.int .u64 0, .slice none 0 0] 45)).alloc (.cells #[.int .u64 0, .slice none 0 0] 45)) w.heap.size 0 nilP from (Bk.new rfl _ _).more _)
  have b1 := Lib.hid (show LB ((w.alloc (.cells #[.int .u64 0, .slice none 0 0] 45)).alloc (.cells #[.int .u64 0, .slice none 0 0] 45)) (w.heap.size + 1) 0 nilP from Bk.new (by simp) _ _)
  have BW := Lib.hid (show Ex w ((w.alloc (.cells #[.int .u64 0, .slice none 0 0] 45)).alloc (.cells #[.int .u64 0, .slice none 0 0] 45)) from ((Below.refl _ _).alloc (Nat.le_refl _) _).alloc (by simp) _)
  have SZ := Lib.hid (show ((w.alloc (.cells #[.int .u64 0, .slice none 0 0] 45)).alloc (.cells #[.int .u64 0, .slice none 0 0] 45)).heap.size = w.heap.size + 2 by simp)
  have HBB := Lib.hid hb
  go_enter Try.func37, Try.ntmps37
  go_wp2_with (first | (with_reducible refine stop_load45 ?_) | (with_reducible refine stop_store45 ?_))
  have bw := BW.out
  generalize hw1 : (w.alloc (.cells #[.int .u64 0, .slice none 0 0] 45)).alloc (.cells #[.int .u64 0, .slice none 0 0] 45) = w1 at *
  obtain ⟨B, hB⟩ : ∃ B, B = w.heap.size := ⟨_, rfl⟩
  rw [← hB] at b0 b1 SZ ⊢
  have HB := Lib.hid hB
  clear hw1 hB BW hb
  (with_reducible refine ⟨?_⟩); (with_reducible refine at_any ?_ ?_); (focus go_simp); refine fun K hK => wp_st45 _ _ (B + 1) v 0 nilP nilP rfl rfl rfl b1.out (fun w2 hd ho => hK _ _ ?_)
  have z2 := Lib.hid (ho.lb b0.out (by omega))
  have bk2 : Hid (Bk w2 (B + 1) 45 #[.int .u64 v, .slice none 0 0]) := Lib.hid hd
  have ow2 := Lib.hid (show ownU w2 (B + 2) (.slice none 0 0) (mem8 b 0) from World.ownsRow_nil w2 (B + 2) 3 1)
  have bw2 := ho.below w.heap.size (by rw [← HB.out]; omega) w bw
  have sz2 := Lib.hid (show B + 2 ≤ w2.heap.size by rw [ho.size, SZ.out]; omega)
  clear hK ho hd b0 b1 bw SZ
  go_wp2_with (first | (with_reducible refine stop_load45 ?_) | (with_reducible refine stop_store45 ?_))
  go_loopw [6] (fun i wr => ∃ (k : Nat) (mv : Value), k ≤ 8 ∧ i = .int .i64 k ∧ Hid (LB wr B 0 nilP) ∧ Hid (Bk wr (B + 1) 45 #[.int .u64 v, mv]) ∧ Hid (ownU wr (B + 2) mv (mem8 b k)) ∧ Hid (B + 2 ≤ wr.heap.size) ∧ Ex w wr) (fun i _ => 8 - (intOf i).toNat)
  case atStart => exact ⟨0, _, by omega, rfl, z2, bk2, ow2, sz2, bw2⟩
  case round =>
    clear z2 bk2 ow2 sz2 bw2
    obtain ⟨k, mv, hk, rfl, z, bk, ow, sz, bw⟩ := hrel
    by_cases hlt : k < 8
    · have q0 : (0 : Int) ≤ (k : Int) := by omega
      have q1 : (k : Int) < 8 := by omega
      have c1 : wr.cell? ⟨B + 1, 1, none⟩ = some mv := bk.out.cell 1
      have sb := shr_bit b k HBB.out hlt
      obtain ⟨L, hL⟩ : ∃ L, L = mem8 b k := ⟨_, rfl⟩
      have ll : L.length ≤ 8 := by rw [hL]; exact Nat.le_trans (mem8_len b k) (by omega)
      rw [← hL] at ow
      have HL := Lib.hid hL
      have HM := Lib.hid (mem8_succ b k)
      clear hL
      rcases Nat.mod_two_eq_zero_or_one (b / 2 ^ k) with hb | hb
      · rw [hb] at sb
        have e1 : bits .and .i64 ((b : Int) / 2 ^ k) 1 = 0 := sb
        have MS := Lib.hid (show mem8 b (k + 1) = L by rw [HM.out, if_neg (by omega), List.append_nil, HL.out])
        clear hb sb
        go_wp2_with fail
        go_roundw
        case rel => exact ⟨k + 1, mv, by omega, by go_num, z, bk, by rw [MS.out]; exact ow, sz, bw⟩
        case measure => simp [intOf]; omega
      · rw [hb] at sb
        have e1 : bits .and .i64 ((b : Int) / 2 ^ k) 1 = 1 := sb
        have MS := Lib.hid (show mem8 b (k + 1) = L ++ [(k : Int)] by rw [HM.out, if_pos hb, HL.out])
        have xa : Ex wr (wr.alloc (.cells #[.int .i64 (k : Int)] 3)) := (Below.refl _ _).alloc (Nat.le_refl _) _
        have OW := Lib.hid (own_under ow.out xa)
        have BKA := Lib.hid (bk.out.under xa bk.out.lt)
        have ZA := Lib.hid (LB.ext z.out xa)
        have NEW := Lib.hid ((Bk.new (w := wr) rfl 3 #[.int .i64 (k : Int)]).cell 0)
        have SZA := Lib.hid (Nat.le_trans sz.out xa.size)
        have XA := Lib.hid xa
        clear hb sb xa
        go_wp2_with (at_builtin; refine sm_append rfl (.tmp 20) (.tmp 22) rfl (B + 2) mv L.length (ic L) rfl OW.out (some ⟨wr.heap.size, 0, none⟩) 1 1 [(k : Int)] rfl ?_ rfl ?_ ?_ ?_ ?_; (focus (exact fun h => by cases h)); (focus (exact fun _ => ⟨_, rfl, fun j u hu => by
          match j, hu with
          | 0, hu => rw [← hu]; exact NEW.out
          | j + 1, hu => simp [ic] at hu⟩)); (focus omega); (focus (exact SZA.out)); intro v3 w3 hown3 hg3; obtain ⟨g3, cap3, hv3, _, _, _⟩ := own_form hown3 (Nat.succ_pos _); subst hv3; have HO3 := Lib.hid hown3; have bx3 : Below (B + 2) (wr.alloc (.cells #[.int .i64 (k : Int)] 3)) w3 := (Below.refl _ _).grown hg3 SZA.out (fun x hx => (World.ownsRow.lt OW.out x hx).1); have bk3 := Lib.hid (BKA.out.under bx3 (by omega)); have c3 : w3.cell? ⟨B + 1, 1, none⟩ = some mv := bk3.out.cell 1; have r3 : w3.frozen? ⟨B + 1, 1, none⟩ = false := bk3.out.fr 1; clear hown3 hg3)
        obtain ⟨v3, hv3⟩ : ∃ v3, v3 = Value.slice (some ⟨g3, 0, none⟩) (L.length + 1) cap3 := ⟨_, rfl⟩
        rw [← hv3] at HO3 ⊢
        clear hv3
        have z3 : Hid (LB (w3.setCell ⟨B + 1, 1, none⟩ v3) B 0 nilP) := Lib.hid (Bk.far (Bk.under ZA.out bx3 (by omega)) (by omega))
        have bk4 : Hid (Bk (w3.setCell ⟨B + 1, 1, none⟩ v3) (B + 1) 45 #[.int .u64 v, v3]) := Lib.hid (bk3.out.put 1 v3)
        have ow3 : Hid (ownU (w3.setCell ⟨B + 1, 1, none⟩ v3) (B + 2) v3 (mem8 b (k + 1))) := by
          rw [MS.out]
          refine Lib.hid (own_set ?_ (by omega))
          unfold ownU
          rw [List.length_append, ic_app]
          exact HO3.out
        have sz3 : Hid (B + 2 ≤ (w3.setCell ⟨B + 1, 1, none⟩ v3).heap.size) := Lib.hid (by
          have := bx3.size; have := SZA.out; simp only [World.setCell, Array.size_modify]; omega)
        have bw3 : Ex w (w3.setCell ⟨B + 1, 1, none⟩ v3) := (Below.trans (show Below w.heap.size w _ from Ex.trans bw XA.out) (bx3.mono (by rw [← HB.out]; omega))).setCell (p := ⟨B + 1, 1, none⟩) (by rw [← HB.out]; show B ≤ B + 1; omega) _
        clear bx3 bk3 c3 r3 HO3 OW BKA ZA NEW SZA XA
        go_roundw
        case rel => exact ⟨k + 1, v3, by omega, by go_num, z3, bk4, ow3, sz3, bw3⟩
        case measure => simp [intOf]; omega
    · obtain rfl : k = 8 := by omega
      obtain ⟨p, hpv, hpl, hpin, _⟩ := own_pt ow.out
      have LBp : Hid (LB wr (B + 1) v p) := by unfold LB; rw [← hpv]; exact bk
      clear hpv
      go_wp2_with (first | (with_reducible refine stop_load45 ?_) | (with_reducible refine stop_store45 ?_))
      (with_reducible refine ⟨?_⟩); (with_reducible refine at_any ?_ ?_); (focus go_simp); refine fun K hK => wp_ld45 _ (B + 1) v p rfl rfl LBp.out (hK _ _ ?_)
      clear hK
      go_wp2_with (first | (with_reducible refine stop_load45 ?_) | (with_reducible refine stop_store45 ?_))
      (with_reducible refine ⟨?_⟩); (with_reducible refine at_any ?_ ?_); (focus go_simp); refine fun K hK => wp_st45 _ _ B v 0 p nilP rfl rfl rfl z.out (fun w5 hd ho => hK _ _ ?_)
      have bw5 := ho.below w.heap.size (by rw [← HB.out]; omega) w bw
      have i5 := hpin.st ho z.out
      clear hK ho
      go_wp2_with (first | (with_reducible refine stop_load45 ?_) | (with_reducible refine stop_store45 ?_))
      exact bodyPost_ret (res_lv1 rfl _ _ B rfl v p hd) rfl ⟨p, rfl, hpl, i5, bw5⟩
end Go.Proofs.Ytgoiidpcdifojaa
