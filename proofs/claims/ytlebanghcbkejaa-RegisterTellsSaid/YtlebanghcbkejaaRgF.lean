/- walks: the law RegisterFolds -/
import Derived.Test.YtlebanghcbkejaaRgE
namespace Go.Proofs.Ytlebanghcbkejaa
open Go.RowKit
set_option maxHeartbeats 4000000 in
set_option maxRecDepth 100000 in
theorem folds_any (n : Int) (hn : -9223372036854775808 ≤ n ∧ n ≤ 9223372036854775807) (H : List UInt8) (hH : H.length = 16) (w : World) :
    Calls Try.prog 6 #[.int .i64 n, digV H] w fun e w' => e = .returned (.bool true) ∧ Below w.heap.size w w' := by
  have HN := Lib.hid (hundred_any n hn)
  have HH := Lib.hid hH
  obtain ⟨ds, hds⟩ : ∃ cs, cs = (Lib.byteCells H).toArray := ⟨_, rfl⟩
  have hv' : digV H = .agg ds := by rw [hds]; rfl
  have H0 : Hid (∀ Z, DB ((w.alloc (.cells ds 25)).alloc (.cells Z 27)) w.heap.size H) := by
    rw [hds]; exact Lib.hid fun Z => ⟨HH.out, (Bk.new rfl _ _).more _⟩
  have bw : ∀ Z, Below w.heap.size w ((w.alloc (.cells ds 25)).alloc (.cells Z 27)) := fun Z => ((Below.refl _ _).alloc (Nat.le_refl _) _).alloc (by simp) _
  have BW := Lib.hid bw
  rw [hv']
  clear hv' hds hn hH bw
  go_enter Try.func6, Try.ntmps6
  go_wp2_with (first | (with_reducible refine stop_load25 ?_) | (with_reducible refine stop_store25 ?_) | (with_reducible refine stop_load27 ?_) | (with_reducible refine stop_store27 ?_))
  (with_reducible refine ⟨?_⟩); (with_reducible refine at_any ?_ ?_); (focus go_simp); refine fun K hK => wp_str _ _ (w.heap.size + 1) zeroRg rfl rfl rfl rfl (Bk.new (by simp) _ _) rfl (fun w2 hd ho => hK _ _ ?_)
  obtain ⟨B, hB⟩ : ∃ B, B = w.heap.size := ⟨_, rfl⟩
  have D2 : Hid (DB w2 B H) := by rw [hB]; exact Lib.hid (ho.db (H0.out _) (by omega))
  have bw2 : Below B w w2 := by rw [hB]; exact ho.below _ (by omega) w (BW.out _)
  rw [← hB] at hd ⊢
  have R2 : Hid (RB w2 (B + 1) (st H 0)) := Lib.hid hd
  replace hB := Lib.hid hB
  clear hK ho hd H0 BW
  go_wp2_with (first | (with_reducible refine stop_load25 ?_) | (with_reducible refine stop_store25 ?_) | (with_reducible refine stop_load27 ?_) | (with_reducible refine stop_store27 ?_))
  refine (HN.out _).mono ?_
  rintro e w3 ⟨⟨k, rfl, hk⟩, rfl⟩
  go_wp2_with (first | (with_reducible refine stop_load25 ?_) | (with_reducible refine stop_store25 ?_) | (with_reducible refine stop_load27 ?_) | (with_reducible refine stop_store27 ?_))
  go_loopw [7] (fun i wr => ∃ j : Nat, j ≤ k ∧ i = .int .i64 ((j : Int) + 1) ∧ Hid (DB wr B H) ∧ Hid (RB wr (B + 1) (st H j)) ∧ Below B w wr) (fun i _ => k + 1 - (intOf i).toNat)
  case atStart => exact ⟨0, by omega, by congr 1, D2, R2, bw2⟩
  case round =>
    clear D2 R2 bw2
    obtain ⟨j, hj, rfl, hD, hR, bwr⟩ := hrel
    have bwr0 : B ≤ wr.heap.size := by have := hR.out.lt; omega
    by_cases hlt : j < k
    · skip
      have q0 : (j : Int) + 1 ≤ (k : Int) := by omega
      have q2 : (j : Int) + 1 ≤ 100 := by omega
      have NX := Lib.hid (fun w => call_next HH.out j (by omega) w)
      obtain ⟨m, hm⟩ : ∃ m, m = j % 8 := ⟨_, rfl⟩
      have HL := Lib.hid (fun w => held_nx HH.out j (by omega) w)
      rw [← hm] at HL
      have HS := Lib.hid (st_len HH.out j)
      go_wp2_with (first | (with_reducible refine stop_load25 ?_) | (with_reducible refine stop_store25 ?_) | (with_reducible refine stop_load27 ?_) | (with_reducible refine stop_store27 ?_))
      (with_reducible refine ⟨?_⟩); (with_reducible refine at_any ?_ ?_); (focus go_simp); refine fun K hK => wp_ldr _ _ (st H j) rfl rfl hR.out (hK _ _ ?_)
      clear hK
      go_wp2_with (first | (with_reducible refine stop_load25 ?_) | (with_reducible refine stop_store25 ?_) | (with_reducible refine stop_load27 ?_) | (with_reducible refine stop_store27 ?_))
      (with_reducible refine ⟨?_⟩); (with_reducible refine at_any ?_ ?_); (focus go_simp); refine fun K hK => wp_ldh _ _ H rfl rfl hD.out (hK _ _ ?_)
      clear hK
      go_wp2_with (first | (with_reducible refine stop_load25 ?_) | (with_reducible refine stop_store25 ?_) | (with_reducible refine stop_load27 ?_) | (with_reducible refine stop_store27 ?_))
      refine (NX.out _).mono ?_
      rintro e w1 ⟨rfl, x1⟩
      go_wp2_with (first | (with_reducible refine stop_load25 ?_) | (with_reducible refine stop_store25 ?_) | (with_reducible refine stop_load27 ?_) | (with_reducible refine stop_store27 ?_))
      (with_reducible refine ⟨?_⟩); (with_reducible refine at_any ?_ ?_); (focus go_simp); refine fun K hK => wp_str _ _ w1.heap.size (nx H j) rfl rfl rfl HH.out (Bk.new rfl _ _) rfl (fun w2 hd ho => hK _ _ ?_)
      have x2 := Ex.trans x1 ho.ex
      have D2 := Lib.hid (hD.out.ext x2)
      have R2 := Lib.hid (hR.out.ext x2)
      have bw2 : Below B w w2 := bwr.trans (x2.mono bwr0)
      have bz2 : B ≤ w2.heap.size := by have := x2.size; omega
      generalize w1.heap.size = g1 at hd ⊢
      have S2 := Lib.hid hd
      clear hK ho hd x1 x2 hD hR bwr bwr0 NX
      have f1 : w2.cell? ⟨g1, 1, none⟩ = some (.int .u64 ((j : Int) + 1)) := S2.out.2.cell 1
      go_wp2_with (first | (with_reducible refine stop_load25 ?_) | (with_reducible refine stop_store25 ?_) | (with_reducible refine stop_load27 ?_) | (with_reducible refine stop_store27 ?_))
      (with_reducible refine ⟨?_⟩); (with_reducible refine at_any ?_ ?_); (focus go_simp); refine fun K hK => wp_ldrh _ g1 (nx H j) rfl rfl S2.out (hK _ _ ?_)
      clear hK
      go_wp2_with (first | (with_reducible refine stop_load25 ?_) | (with_reducible refine stop_store25 ?_) | (with_reducible refine stop_load27 ?_) | (with_reducible refine stop_store27 ?_))
      (with_reducible refine ⟨?_⟩); (with_reducible refine at_any ?_ ?_); (focus go_simp); refine fun K hK => wp_ldh _ _ H rfl rfl D2.out (hK _ _ ?_)
      clear hK
      with_reducible refine at_any ?_ ?_
      (focus go_simp)
      refine fun K hK => wp_neqd _ _ _ H H false rfl HH.out HH.out rfl rfl (by simp) (hK _ _ ?_)
      clear hK
      go_wp2_with (first | (with_reducible refine stop_load25 ?_) | (with_reducible refine stop_store25 ?_) | (with_reducible refine stop_load27 ?_) | (with_reducible refine stop_store27 ?_))
      (with_reducible refine ⟨?_⟩); (with_reducible refine at_any ?_ ?_); (focus go_simp); refine fun K hK => wp_ldr _ _ (nx H j) rfl rfl S2.out (hK _ _ ?_)
      clear hK
      go_wp2_with (first | (with_reducible refine stop_load25 ?_) | (with_reducible refine stop_store25 ?_) | (with_reducible refine stop_load27 ?_) | (with_reducible refine stop_store27 ?_))
      (with_reducible refine ⟨?_⟩); (with_reducible refine at_any ?_ ?_); (focus go_simp); refine fun K hK => wp_str _ _ (B + 1) (nx H j) rfl rfl rfl HH.out R2.out.2 (by simp [(st H j).len HS.out]) (fun w3 hd ho => hK _ _ ?_)
      have D3 := Lib.hid (ho.db D2.out (by omega))
      have R3 := Lib.hid hd
      have bw3 := ho.below B (by omega) w bw2
      have bz3 : B ≤ w3.heap.size := by rw [ho.size]; exact bz2
      clear hK ho hd D2 R2 S2 bw2 bz2 f1
      go_wp2_with (first | (with_reducible refine stop_load25 ?_) | (with_reducible refine stop_store25 ?_) | (with_reducible refine stop_load27 ?_) | (with_reducible refine stop_store27 ?_))
      (with_reducible refine ⟨?_⟩); (with_reducible refine at_any ?_ ?_); (focus go_simp); refine fun K hK => wp_ldr _ _ (nx H j) rfl rfl R3.out (hK _ _ ?_)
      clear hK
      go_wp2_with (first | (with_reducible refine stop_load25 ?_) | (with_reducible refine stop_store25 ?_) | (with_reducible refine stop_load27 ?_) | (with_reducible refine stop_store27 ?_))
      refine (HL.out _).mono ?_
      rintro e w4 ⟨rfl, x4⟩
      have D4 := Lib.hid (D3.out.ext x4)
      have R4 := Lib.hid (R3.out.ext x4)
      have bw4 : Below B w w4 := bw3.trans (x4.mono bz3)
      have bz4 : B ≤ w4.heap.size := by have := x4.size; omega
      clear x4 D3 R3 bw3 bz3 HL
      by_cases h7 : m < 7
      · skip
        have q3 : (m : Int) + 1 < 8 := by omega
        have R5 : Hid (RB w4 (B + 1) (st H (j + 1))) := by rw [← nx_st H j (by omega)]; exact R4
        clear R4
        go_wp2_with (first | (with_reducible refine stop_load25 ?_) | (with_reducible refine stop_store25 ?_) | (with_reducible refine stop_load27 ?_) | (with_reducible refine stop_store27 ?_))
        go_roundw
        case rel => exact ⟨j + 1, by omega, by go_num, D4, R5, bw4⟩
        case measure => simp [intOf]; omega
      · skip
        have q3 : ¬ ((m : Int) + 1 < 8) := by omega
        have m7 : j % 8 = 7 := by omega
        have OV := Lib.hid (fun w => call_over HH.out j (by omega) m7 w)
        have FO := Lib.hid (fun w => call_fold HH.out j (by omega) m7 w)
        have HZ := Lib.hid (fun w => held_st HH.out (j + 1) (by omega) w)
        rw [show ((((j + 1) % 8 : Nat) : Int)) = 0 by omega] at HZ
        have HS1 := Lib.hid (st_len HH.out (j + 1))
        have M7 := Lib.hid m7
        clear m7
        go_wp2_with (first | (with_reducible refine stop_load25 ?_) | (with_reducible refine stop_store25 ?_) | (with_reducible refine stop_load27 ?_) | (with_reducible refine stop_store27 ?_))
        (with_reducible refine ⟨?_⟩); (with_reducible refine at_any ?_ ?_); (focus go_simp); refine fun K hK => wp_ldr _ _ (nx H j) rfl rfl R4.out (hK _ _ ?_)
        clear hK
        go_wp2_with (first | (with_reducible refine stop_load25 ?_) | (with_reducible refine stop_store25 ?_) | (with_reducible refine stop_load27 ?_) | (with_reducible refine stop_store27 ?_))
        (with_reducible refine ⟨?_⟩); (with_reducible refine at_any ?_ ?_); (focus go_simp); refine fun K hK => wp_ldh _ _ H rfl rfl D4.out (hK _ _ ?_)
        clear hK
        go_wp2_with (first | (with_reducible refine stop_load25 ?_) | (with_reducible refine stop_store25 ?_) | (with_reducible refine stop_load27 ?_) | (with_reducible refine stop_store27 ?_))
        refine (OV.out _).mono ?_
        rintro e w5 ⟨rfl, x5⟩
        go_wp2_with (first | (with_reducible refine stop_load25 ?_) | (with_reducible refine stop_store25 ?_) | (with_reducible refine stop_load27 ?_) | (with_reducible refine stop_store27 ?_))
        (with_reducible refine ⟨?_⟩); (with_reducible refine at_any ?_ ?_); (focus go_simp); refine fun K hK => wp_str _ _ w5.heap.size zeroRg rfl rfl rfl rfl (Bk.new rfl _ _) rfl (fun w6 hd ho => hK _ _ ?_)
        have x6 := Ex.trans x5 ho.ex
        have D6 := Lib.hid (D4.out.ext x6)
        have R6 := Lib.hid (R4.out.ext x6)
        have bw6 : Below B w w6 := bw4.trans (x6.mono bz4)
        have bz6 : B ≤ w6.heap.size := by have := x6.size; omega
        generalize w5.heap.size = g3 at hd ⊢
        clear hK ho hd x5 x6 D4 R4 bw4 bz4 OV
        go_wp2_with (first | (with_reducible refine stop_load25 ?_) | (with_reducible refine stop_store25 ?_) | (with_reducible refine stop_load27 ?_) | (with_reducible refine stop_store27 ?_))
        (with_reducible refine ⟨?_⟩); (with_reducible refine at_any ?_ ?_); (focus go_simp); refine fun K hK => wp_ldr _ _ (nx H j) rfl rfl R6.out (hK _ _ ?_)
        clear hK
        go_wp2_with (first | (with_reducible refine stop_load25 ?_) | (with_reducible refine stop_store25 ?_) | (with_reducible refine stop_load27 ?_) | (with_reducible refine stop_store27 ?_))
        (with_reducible refine ⟨?_⟩); (with_reducible refine at_any ?_ ?_); (focus go_simp); refine fun K hK => wp_ldh _ _ H rfl rfl D6.out (hK _ _ ?_)
        clear hK
        go_wp2_with (first | (with_reducible refine stop_load25 ?_) | (with_reducible refine stop_store25 ?_) | (with_reducible refine stop_load27 ?_) | (with_reducible refine stop_store27 ?_))
        refine (FO.out _).mono ?_
        rintro e w7 ⟨rfl, x7⟩
        go_wp2_with (first | (with_reducible refine stop_load25 ?_) | (with_reducible refine stop_store25 ?_) | (with_reducible refine stop_load27 ?_) | (with_reducible refine stop_store27 ?_))
        (with_reducible refine ⟨?_⟩); (with_reducible refine at_any ?_ ?_); (focus go_simp); refine fun K hK => wp_str _ _ w7.heap.size (st H (j + 1)) rfl rfl rfl HS1.out (Bk.new rfl _ _) rfl (fun w8 hd ho => hK _ _ ?_)
        have x8 := Ex.trans x7 ho.ex
        have D8 := Lib.hid (D6.out.ext x8)
        have R8 := Lib.hid (R6.out.ext x8)
        have bw8 : Below B w w8 := bw6.trans (x8.mono bz6)
        have bz8 : B ≤ w8.heap.size := by have := x8.size; omega
        generalize w7.heap.size = g4 at hd ⊢
        have S8 := Lib.hid hd
        clear hK ho hd x7 x8 D6 R6 bw6 bz6 FO
        have f1 : w8.cell? ⟨B + 1, 1, none⟩ = some (.int .u64 ((j : Int) + 1)) := R8.out.2.cell 1
        have f2 : w8.cell? ⟨g4, 2, none⟩ = some (.int .u64 ((j : Int) + 1)) := (S8.out.2.cell 2).trans (by
          have e := (st H (j + 1)).at2
          simp only [List.getElem?_toArray, e]
          show some (Value.int .u64 (8 * (((j + 1) / 8 : Nat) : Int))) = _
          rw [show 8 * (((j + 1) / 8 : Nat) : Int) = (j : Int) + 1 by have := M7.out; omega])
        have f3 : w8.cell? ⟨B + 1, 19, none⟩ = some (.int .i64 ((j / 8 % 2 : Nat) : Int)) := (R8.out.2.cell 19).trans (by have e := (nx H j).at19 HH.out; simp only [List.getElem?_toArray, e]; rfl)
        have f4 : w8.cell? ⟨g4, 19, none⟩ = some (.int .i64 (((j + 1) / 8 % 2 : Nat) : Int)) := (S8.out.2.cell 19).trans (by have e := (st H (j + 1)).at19 HS1.out; simp only [List.getElem?_toArray, e]; rfl)
        obtain ⟨p0, hp0⟩ : ∃ p, p = j / 8 % 2 := ⟨_, rfl⟩
        obtain ⟨p1, hp1⟩ : ∃ p, p = (j + 1) / 8 % 2 := ⟨_, rfl⟩
        rw [← hp0] at f3
        rw [← hp1] at f4
        have hpp : (p0 = 0 ∧ p1 = 1) ∨ (p0 = 1 ∧ p1 = 0) := by have := M7.out; omega
        clear hp0 hp1
        rcases hpp with ⟨rfl, rfl⟩ | ⟨rfl, rfl⟩
        all_goals (
          go_wp2_with (first | (with_reducible refine stop_load25 ?_) | (with_reducible refine stop_store25 ?_) | (with_reducible refine stop_load27 ?_) | (with_reducible refine stop_store27 ?_))
          (with_reducible refine ⟨?_⟩); (with_reducible refine at_any ?_ ?_); (focus go_simp); refine fun K hK => wp_ldr _ _ (st H (j + 1)) rfl rfl S8.out (hK _ _ ?_)
          clear hK
          go_wp2_with (first | (with_reducible refine stop_load25 ?_) | (with_reducible refine stop_store25 ?_) | (with_reducible refine stop_load27 ?_) | (with_reducible refine stop_store27 ?_))
          refine (HZ.out _).mono ?_
          rintro e w9 ⟨rfl, x9⟩
          have D9 := Lib.hid (D8.out.ext x9)
          have R9 := Lib.hid (R8.out.ext x9)
          have S9 := Lib.hid (S8.out.ext x9)
          have bw9 : Below B w w9 := bw8.trans (x9.mono bz8)
          clear x9 D8 R8 S8 bw8 f1 f2 f3 f4 HZ
          have f5 : w9.cell? ⟨B + 1, 0, none⟩ = some (.int .u64 0) := R9.out.2.cell 0
          have f6 : w9.cell? ⟨g4, 0, none⟩ = some (.int .u64 0) := S9.out.2.cell 0
          go_wp2_with (first | (with_reducible refine stop_load25 ?_) | (with_reducible refine stop_store25 ?_) | (with_reducible refine stop_load27 ?_) | (with_reducible refine stop_store27 ?_))
          (with_reducible refine ⟨?_⟩); (with_reducible refine at_any ?_ ?_); (focus go_simp); refine fun K hK => wp_ldr _ _ (st H (j + 1)) rfl rfl S9.out (hK _ _ ?_)
          clear hK
          go_wp2_with (first | (with_reducible refine stop_load25 ?_) | (with_reducible refine stop_store25 ?_) | (with_reducible refine stop_load27 ?_) | (with_reducible refine stop_store27 ?_))
          (with_reducible refine ⟨?_⟩); (with_reducible refine at_any ?_ ?_); (focus go_simp); refine fun K hK => wp_str _ _ (B + 1) (st H (j + 1)) rfl rfl rfl HS1.out R9.out.2 (by simp [(nx H j).len HH.out]) (fun w10 hd ho => hK _ _ ?_)
          have D10 := Lib.hid (ho.db D9.out (by omega))
          have R10 := Lib.hid hd
          have bw10 := ho.below B (by omega) w bw9
          clear hK ho hd D9 R9 S9 bw9 f5 f6
          go_wp2_with (first | (with_reducible refine stop_load25 ?_) | (with_reducible refine stop_store25 ?_) | (with_reducible refine stop_load27 ?_) | (with_reducible refine stop_store27 ?_))
          go_roundw
          case rel => exact ⟨j + 1, by omega, by go_num, D10, R10, bw10⟩
          case measure => simp [intOf]; omega)
    · skip
      obtain rfl : j = k := by omega
      have q0 : (j : Int) < (j : Int) + 1 := by omega
      have HZ := Lib.hid (fun w => held_st HH.out j (by omega) w)
      rw [show ((j % 8 : Nat) : Int) = (j : Int) % 8 by omega] at HZ
      have HS := Lib.hid (st_len HH.out j)
      go_wp2_with (first | (with_reducible refine stop_load25 ?_) | (with_reducible refine stop_store25 ?_) | (with_reducible refine stop_load27 ?_) | (with_reducible refine stop_store27 ?_))
      (with_reducible refine ⟨?_⟩); (with_reducible refine at_any ?_ ?_); (focus go_simp); refine fun K hK => wp_ldr _ _ (st H j) rfl rfl hR.out (hK _ _ ?_)
      clear hK
      go_wp2_with (first | (with_reducible refine stop_load25 ?_) | (with_reducible refine stop_store25 ?_) | (with_reducible refine stop_load27 ?_) | (with_reducible refine stop_store27 ?_))
      refine (HZ.out _).mono ?_
      rintro e w1 ⟨rfl, x1⟩
      have R2 := Lib.hid (hR.out.ext x1)
      have bw2 : Below B w w1 := bwr.trans (x1.mono bwr0)
      have bz2 : B ≤ w1.heap.size := by have := x1.size; omega
      clear x1 hD hR bwr bwr0 HZ
      have f1 : w1.cell? ⟨B + 1, 19, none⟩ = some (.int .i64 ((j : Int) / 8 % 2)) := (R2.out.2.cell 19).trans (by
        have e := (st H j).at19 HS.out
        simp only [List.getElem?_toArray, e]
        show some (Value.int .i64 ((j / 8 % 2 : Nat) : Int)) = _
        rw [show ((j / 8 % 2 : Nat) : Int) = (j : Int) / 8 % 2 by omega])
      go_wp2_with (first | (with_reducible refine stop_load25 ?_) | (with_reducible refine stop_store25 ?_) | (with_reducible refine stop_load27 ?_) | (with_reducible refine stop_store27 ?_))
      refine (known_any _).mono ?_
      rintro e w2 ⟨rfl, x2⟩
      have bw3 : Below B w w2 := bw2.trans (x2.mono bz2)
      rw [hB.out] at bw3
      go_wp2_with (first | (with_reducible refine stop_load25 ?_) | (with_reducible refine stop_store25 ?_) | (with_reducible refine stop_load27 ?_) | (with_reducible refine stop_store27 ?_))
      go_ret
      exact ⟨rfl, bw3⟩
end Go.Proofs.Ytlebanghcbkejaa
