/- the law PinWeak, walked -/
import Derived.Test.YtiomokjidipjkaaB6
import Derived.Laws.OwnMore
namespace Go.Proofs.Ytiomokjidipjkaa
open Go.RowKit
theorem bytes_zero (n : Nat) : (madeCells (Value.int .u8 0).cells (n * 1)).toList = Lib.byteCells (List.replicate n 0) := by
  rw [Nat.mul_one]
  show (madeCells #[Value.int .u8 0] n).toList = _
  rw [toList_madeCells_one]; simp [Lib.byteCells]
theorem byteCells_set (l : List UInt8) (j : Nat) (b : UInt8) : (Lib.byteCells l).set j (.int .u8 (b.toNat : Int)) = Lib.byteCells (l.set j b) := by simp [Lib.byteCells, List.map_set]
theorem byteCells_at (l : List UInt8) (j : Nat) (h : j < l.length) : (Lib.byteCells l)[j]? = some (.int .u8 (l[j].toNat : Int)) := by simp [Lib.byteCells, h]

set_option maxHeartbeats 4000000 in
set_option maxRecDepth 100000 in
theorem weak_m0 (x0 x1 x2 x3 x4 : Int) (w : World) (hm : x2.tmod 3 % 3 = 0) :
    Calls Try.prog 7 #[.int .i64 x0, .int .i64 x1, .int .i64 x2, .int .i64 x3, .int .i64 x4] w fun e w' => e = .returned (.bool true) ∧ Below w.heap.size w w' := by
  obtain ⟨i0, hi, hz0, hz1, hz2⟩ := info_parts Try.info5
  obtain ⟨t1, t2⟩ := tmod_bd x1 8 (by omega)
  obtain ⟨t3, t4⟩ := tmod_bd x0 10 (by omega)
  obtain ⟨t5, t6⟩ := tmod_bd x2 3 (by omega)
  obtain ⟨B, hB⟩ : ∃ B, B = w.heap.size := ⟨_, rfl⟩
  have g1 : (x2.tmod 3 % 3 - 1 == 1) = false := by rw [hm]; rfl
  have g2 : (x2.tmod 3 % 3 - 1 == -1) = true := by rw [hm]; rfl
  have hst : x2.tmod 3 % 3 - 1 = -1 := by omega
  have hK0 : 5 ≤ min (5 + x1.tmod 8 % 8) 8 := by omega
  have hK1 : min (5 + x1.tmod 8 % 8) 8 ≤ 12 := by omega
  have hF : ∀ i : Int, 0 ≤ i → i < min (5 + x1.tmod 8 % 8) 8 → 0 ≤ (9 - x0.tmod 10 % 10 % 3) + (-1) * i ∧ (9 - x0.tmod 10 % 10 % 3) + (-1) * i ≤ 9 := by intro i h1 h2; omega
  have hF0 : 0 ≤ (9 - x0.tmod 10 % 10 % 3) ∧ (9 - x0.tmod 10 % 10 % 3) ≤ 9 := by omega
  have HS := Lib.hid (And.intro hst (And.intro hK0 (And.intro hK1 (And.intro hF hF0))))
  clear hst hK0 hK1 hF hm hF0
  go_enter Try.func7, Try.ntmps7
  have hK0 := HS.out.2.1
  have hK1 := HS.out.2.2.1
  obtain ⟨k, hk⟩ := Int.eq_ofNat_of_zero_le (show 0 ≤ min (5 + x1.tmod 8 % 8) 8 by omega)
  obtain ⟨f, hf⟩ : ∃ f, f = (9 - x0.tmod 10 % 10 % 3) := ⟨_, rfl⟩
  have hk5 : 5 ≤ k := by omega
  have hk12 : k ≤ 12 := by omega
  have HF : Hid (∀ i : Int, 0 ≤ i → i < (k : Int) → 0 ≤ f + (-1) * i ∧ f + (-1) * i ≤ 9) := Lib.hid (by rw [hf, ← hk]; exact HS.out.2.2.2.1)
  obtain ⟨f0, f9⟩ : 0 ≤ f ∧ f ≤ 9 := by rw [hf]; exact HS.out.2.2.2.2
  have HE := Lib.hid (And.intro hk (And.intro hf HS.out.1))
  clear hK0 hK1 HS hk hf
  go_wp2_with (first
    | (at_make; rw [HE.out.2.2, ← HE.out.2.1, HE.out.1]; clear g1 g2 t1 t2 t3 t4 t5 t6; refine wpList_make_full _ rfl _ _ 35 rfl B 5 i0 (.int .u8 0) 1 Try.underlying35 hi hz0 hz1 _ _ _ _ k rfl rfl rfl rfl (by rw [hz2]; omega) (by unfold maxLen; omega) (by rw [hB]; exact Nat.le_refl _) ?_; intro w1 hown hgrow))
  rw [bytes_zero, ← hB] at hown
  rw [← hB]
  have hbl0 : Below B w w1 := by rw [hB]; exact (Below.refl _ _).grown hgrow (Nat.le_refl _) (by intro k hk; cases hk)
  have hown0 : w1.ownsRow B 5 1 (.slice (some ⟨B, 0, none⟩) k k) k (Lib.byteCells (partB f (-1) k 0)) := by simpa [partB] using hown
  have HB := Lib.hid hB
  clear hB hown hgrow
  go_loopw [15, 49] (fun _ i wr => ∃ j : Nat, j ≤ k ∧ i = .int .i64 j ∧ wr.ownsRow B 5 1 (.slice (some ⟨B, 0, none⟩) k k) k (Lib.byteCells (partB f (-1) k j)) ∧ Below B w wr) (fun _ i _ => k - (intOf i).toNat)
  case atStart => exact ⟨0, Nat.zero_le _, rfl, hown0, hbl0⟩
  case round =>
    obtain ⟨j, hj, rfl, hown, hbl⟩ := hrel
    clear hown0 hbl0
    by_cases hlt : j < k
    · have hx := HF.out (j : Int) (by omega) (by omega)
      have q0 : (0 : Int) ≤ (j : Int) := by omega
      have q1 : (j : Int) < (k : Int) := by omega
      have q2 : (j : Int) ≤ 12 := by omega
      have hfr := hown.frozenAt j
      have hcell : wr.cell? ⟨B, j, none⟩ = some (.int .u8 (((partB f (-1) k j)[j]'(by rw [partB_length _ _ _ _ hj]; exact hlt)).toNat : Int)) := by
        rw [hown.cellAt j (by omega)]; exact byteCells_at _ _ (by rw [partB_length _ _ _ _ hj]; exact hlt)
      have hv : (((48 + f + (-1) * (j : Int)).toNat.toUInt8).toNat : Int) = 48 + f + (-1) * (j : Int) := by
        have e : (48 + f + (-1) * (j : Int)).toNat.toUInt8.toNat = (48 + f + (-1) * (j : Int)).toNat := by
          simp [Nat.toUInt8, UInt8.toNat_ofNat']; omega
        rw [e]; omega
      have hst := hown.stored j (.int .u8 (48 + f + (-1) * (j : Int)))
      rw [← hv, byteCells_set, partB_set _ _ _ _ hlt, hv] at hst
      have hbl2 : Below B w (wr.setCell ⟨B, j, none⟩ (.int .u8 (48 + f + (-1) * (j : Int)))) := hbl.setCell (p := ⟨B, j, none⟩) (Nat.le_refl _) _
      have HST := Lib.hid (And.intro hst.1 hbl2)
      clear hst hbl2 hv hown hbl
      go_wp2
      go_roundw
      case rel => exact ⟨j + 1, by omega, by go_num, by rw [show 48 + f + -(j : Int) = 48 + f + (-1) * (j : Int) from by omega]; exact HST.out.1, by rw [show 48 + f + -(j : Int) = 48 + f + (-1) * (j : Int) from by omega]; exact HST.out.2⟩
      case measure => simp [intOf]; omega
    · obtain rfl : j = k := by omega
      clear hlt
      obtain ⟨L, hL⟩ : ∃ L, L = rowB f (-1) j := ⟨_, rfl⟩
      have hLl : L.length = j := by rw [hL]; exact rowB_length _ _ _
      have hLat : ∀ i (h : i < L.length), (L[i].toNat : Int) = 48 + f + (-1) * (i : Int) := by
        intro i h
        have hx := HF.out (i : Int) (by omega) (by omega)
        have := rowB_at f (-1) j i (by omega) (by omega) (by omega)
        simp only [hL]; exact this
      have hbat : ∀ i, i < L.length → bat ⟨L.toArray⟩ i = 48 + f + (-1) * (i : Int) := fun i h => by rw [bat_list L i h]; exact hLat i h
      rw [partB_all, ← hL] at hown
      clear hL
      have hownL : wr.ownsRow B 5 1 (.slice (some ⟨B, 0, none⟩) j j) L.length (Lib.byteCells L) := by rw [hLl]; exact hown
      have hcv := own_bytes hownL Try.prog 35 9 Try.underlying35 Try.underlying5 Try.underlying9
      have hweak : weakB ⟨L.toArray⟩ = true := row_weak L (48 + f) (-1) (by omega) (by omega) (by omega) hbat (fun i h => by have := HF.out (i : Int) (by omega) (by omega); omega)
      have hzL : (⟨L.toArray⟩ : ByteArray).size ≤ maxLen := by unfold maxLen; simp [ByteArray.size]; omega
      have r1 := fun w => (weak_any ⟨L.toArray⟩ hzL w).mono (fun e w' h => (show e = .returned (.bool true) ∧ Below w.heap.size w w' from ⟨by rw [h.1, hweak], h.2⟩))
      have R1 := Lib.hid r1
      have HB1 := Lib.hid hbat
      have HL := Lib.hid hLat
      clear r1 hweak hzL hbat hLat hown
      obtain ⟨a1, a2⟩ := tmod_bd x3 (j : Int) (by omega)
      obtain ⟨a3, a4⟩ := tmod_bd x4 10 (by omega)
      have hj0 : ((j : Int) == 0) = false := by rw [beq_eq_false_iff_ne]; omega
      have hj1 : (0 : Int) < (j : Int) := by omega
      have hBr : B < wr.heap.size := (hownL.lt B rfl).2
      have i0' : 0 ≤ x3.tmod (j : Int) % (j : Int) := Int.emod_nonneg _ (by omega)
      have i1' : x3.tmod (j : Int) % (j : Int) < (j : Int) := Int.emod_lt_of_pos _ hj1
      obtain ⟨idx, hidx⟩ : ∃ idx : Nat, idx = (x3.tmod (j : Int) % (j : Int)).toNat := ⟨_, rfl⟩
      have hidx2 : idx < j := by omega
      have HI := Lib.hid hidx
      clear hidx
      go_wp2_with fail
      refine (R1.out _).mono ?_
      rintro e w2 ⟨rfl, b2⟩
      have hown2 : w2.ownsRow B 5 1 (.slice (some ⟨B, 0, none⟩) j j) L.length (Lib.byteCells L) := by
        refine ⟨hownL.1, ?_⟩
        rcases hownL.2 with ⟨h, _⟩ | ⟨g, cap, cur, h, hb, hg, rest⟩
        · simp at h
        · refine .inr ⟨g, cap, cur, h, hb, ?_, rest⟩
          have : g = B := by simp at h; exact h.1.symm
          rw [b2.block g (by rw [this]; exact hBr)]; exact hg
      have hbl2 : Below B w w2 := hbl.trans (b2.mono (by omega))
      clear hownL hcv hbl b2
      have hown2j : w2.ownsRow B 5 1 (.slice (some ⟨B, 0, none⟩) j j) j (Lib.byteCells L) := by have h := hown2; rw [hLl] at h; exact h
      have hcell : w2.cell? ⟨B, (x3.tmod (j : Int) % (j : Int)).toNat, none⟩ = some (.int .u8 ((L[idx]'(by omega)).toNat : Int)) := by
        rw [← HI.out, hown2j.cellAt idx (by omega)]; exact byteCells_at _ _ (by omega)
      have hfr : w2.frozen? ⟨B, (x3.tmod (j : Int) % (j : Int)).toNat, none⟩ = false := hown2j.frozenAt _
      obtain ⟨d, hd⟩ : ∃ d : UInt8, (d.toNat : Int) = 48 + x4.tmod 10 % 10 := by
        refine ⟨(48 + x4.tmod 10 % 10).toNat.toUInt8, ?_⟩
        have e : (48 + x4.tmod 10 % 10).toNat.toUInt8.toNat = (48 + x4.tmod 10 % 10).toNat := by
          simp [Nat.toUInt8, UInt8.toNat_ofNat']; omega
        rw [e]; omega
      by_cases heq : (48 + x4.tmod 10 % 10 == ((L[idx]'(by omega)).toNat : Int)) = true
      · have HD := Lib.hid hd
        clear hd
        go_wp2_with fail
        refine (known_any _).mono ?_
        rintro e w3 ⟨rfl, b3⟩
        go_wp2
        go_ret
        exact ⟨rfl, by rw [← HB.out]; exact hbl2.trans (b3.mono (by have := hbl2.size; have := HB.out; omega))⟩
      · have heq' : (48 + x4.tmod 10 % 10 == ((L[idx]'(by omega)).toNat : Int)) = false := by simpa using heq
        have hst := hown2j.stored idx (.int .u8 (48 + x4.tmod 10 % 10))
        rw [← hd, byteCells_set, hd] at hst
        have hnot : weakB ⟨(L.set idx d).toArray⟩ = false := by
          refine turned_not_weak ⟨L.toArray⟩ _ j idx (48 + f) (-1) (by omega) (by simp [ByteArray.size]; exact hLl) (by simp [ByteArray.size]; exact hLl) hk5 hidx2 (fun i h => HB1.out i (by omega)) ?_ ?_
          · intro i h hne
            rw [bat_list _ i (by simp; omega), bat_list _ i (by omega)]
            simp [List.getElem_set, Ne.symm hne]
          · rw [bat_list _ idx (by simp; omega), bat_list _ idx (by omega)]
            simp only [List.getElem_set_self]
            rw [hd]
            intro e; rw [e] at heq'; simp at heq'
        have hownS : (w2.setCell ⟨B, (x3.tmod (j : Int) % (j : Int)).toNat, none⟩ (.int .u8 (48 + x4.tmod 10 % 10))).ownsRow B 5 1 (.slice (some ⟨B, 0, none⟩) j j) (L.set idx d).length (Lib.byteCells (L.set idx d)) := by
          rw [← HI.out]; have := hst.1; simpa [hLl] using this
        have hcv := own_bytes hownS Try.prog 35 9 Try.underlying35 Try.underlying5 Try.underlying9
        have hbl3 : Below B w (w2.setCell ⟨B, (x3.tmod (j : Int) % (j : Int)).toNat, none⟩ (.int .u8 (48 + x4.tmod 10 % 10))) := hbl2.setCell (p := ⟨B, _, none⟩) (Nat.le_refl _) _
        have hzL : (⟨(L.set idx d).toArray⟩ : ByteArray).size ≤ maxLen := by unfold maxLen; simp [ByteArray.size]; omega
        have r2 := fun w => (weak_any ⟨(L.set idx d).toArray⟩ hzL w).mono (fun e w' h => (show e = .returned (.bool false) ∧ Below w.heap.size w w' from ⟨by rw [h.1, hnot], h.2⟩))
        have R2 := Lib.hid r2
        have HD := Lib.hid hd
        clear r2 hnot hzL hst hown2 hown2j hownS hd heq hbl2
        go_wp2_with fail
        refine (R2.out _).mono ?_
        rintro e w3 ⟨rfl, b3⟩
        go_wp2_with fail
        refine (known_any _).mono ?_
        rintro e w4 ⟨rfl, b4⟩
        go_wp2
        go_ret
        exact ⟨rfl, by rw [← HB.out]; exact (hbl3.trans (b3.mono (by have := hbl3.size; have := HB.out; omega))).trans (b4.mono (by have := b3.size; have := hbl3.size; have := HB.out; omega))⟩

set_option maxHeartbeats 4000000 in
set_option maxRecDepth 100000 in
theorem weak_m1 (x0 x1 x2 x3 x4 : Int) (w : World) (hm : x2.tmod 3 % 3 = 1) :
    Calls Try.prog 7 #[.int .i64 x0, .int .i64 x1, .int .i64 x2, .int .i64 x3, .int .i64 x4] w fun e w' => e = .returned (.bool true) ∧ Below w.heap.size w w' := by
  obtain ⟨i0, hi, hz0, hz1, hz2⟩ := info_parts Try.info5
  obtain ⟨t1, t2⟩ := tmod_bd x1 8 (by omega)
  obtain ⟨t3, t4⟩ := tmod_bd x0 10 (by omega)
  obtain ⟨t5, t6⟩ := tmod_bd x2 3 (by omega)
  obtain ⟨B, hB⟩ : ∃ B, B = w.heap.size := ⟨_, rfl⟩
  have g1 : (x2.tmod 3 % 3 - 1 == 1) = false := by rw [hm]; rfl
  have g2 : (x2.tmod 3 % 3 - 1 == -1) = false := by rw [hm]; rfl
  have hst : x2.tmod 3 % 3 - 1 = 0 := by omega
  have hK0 : 5 ≤ (5 + x1.tmod 8 % 8) := by omega
  have hK1 : (5 + x1.tmod 8 % 8) ≤ 12 := by omega
  have hF : ∀ i : Int, 0 ≤ i → i < (5 + x1.tmod 8 % 8) → 0 ≤ ((x0.tmod 10 + 10) % 10) + (0) * i ∧ ((x0.tmod 10 + 10) % 10) + (0) * i ≤ 9 := by intro i h1 h2; omega
  have hF0 : 0 ≤ ((x0.tmod 10 + 10) % 10) ∧ ((x0.tmod 10 + 10) % 10) ≤ 9 := by omega
  have HS := Lib.hid (And.intro hst (And.intro hK0 (And.intro hK1 (And.intro hF hF0))))
  clear hst hK0 hK1 hF hm hF0
  go_enter Try.func7, Try.ntmps7
  have hK0 := HS.out.2.1
  have hK1 := HS.out.2.2.1
  obtain ⟨k, hk⟩ := Int.eq_ofNat_of_zero_le (show 0 ≤ (5 + x1.tmod 8 % 8) by omega)
  obtain ⟨f, hf⟩ : ∃ f, f = ((x0.tmod 10 + 10) % 10) := ⟨_, rfl⟩
  have hk5 : 5 ≤ k := by omega
  have hk12 : k ≤ 12 := by omega
  have HF : Hid (∀ i : Int, 0 ≤ i → i < (k : Int) → 0 ≤ f + (0) * i ∧ f + (0) * i ≤ 9) := Lib.hid (by rw [hf, ← hk]; exact HS.out.2.2.2.1)
  obtain ⟨f0, f9⟩ : 0 ≤ f ∧ f ≤ 9 := by rw [hf]; exact HS.out.2.2.2.2
  have HE := Lib.hid (And.intro hk (And.intro hf HS.out.1))
  clear hK0 hK1 HS hk hf
  go_wp2_with (first
    | (at_make; rw [HE.out.2.2, ← HE.out.2.1, HE.out.1]; clear g1 g2 t1 t2 t3 t4 t5 t6; refine wpList_make_full _ rfl _ _ 35 rfl B 5 i0 (.int .u8 0) 1 Try.underlying35 hi hz0 hz1 _ _ _ _ k rfl rfl rfl rfl (by rw [hz2]; omega) (by unfold maxLen; omega) (by rw [hB]; exact Nat.le_refl _) ?_; intro w1 hown hgrow))
  rw [bytes_zero, ← hB] at hown
  rw [← hB]
  have hbl0 : Below B w w1 := by rw [hB]; exact (Below.refl _ _).grown hgrow (Nat.le_refl _) (by intro k hk; cases hk)
  have hown0 : w1.ownsRow B 5 1 (.slice (some ⟨B, 0, none⟩) k k) k (Lib.byteCells (partB f (0) k 0)) := by simpa [partB] using hown
  have HB := Lib.hid hB
  clear hB hown hgrow
  go_loopw [15, 49] (fun _ i wr => ∃ j : Nat, j ≤ k ∧ i = .int .i64 j ∧ wr.ownsRow B 5 1 (.slice (some ⟨B, 0, none⟩) k k) k (Lib.byteCells (partB f (0) k j)) ∧ Below B w wr) (fun _ i _ => k - (intOf i).toNat)
  case atStart => exact ⟨0, Nat.zero_le _, rfl, hown0, hbl0⟩
  case round =>
    obtain ⟨j, hj, rfl, hown, hbl⟩ := hrel
    clear hown0 hbl0
    by_cases hlt : j < k
    · have hx := HF.out (j : Int) (by omega) (by omega)
      have q0 : (0 : Int) ≤ (j : Int) := by omega
      have q1 : (j : Int) < (k : Int) := by omega
      have q2 : (j : Int) ≤ 12 := by omega
      have hfr := hown.frozenAt j
      have hcell : wr.cell? ⟨B, j, none⟩ = some (.int .u8 (((partB f (0) k j)[j]'(by rw [partB_length _ _ _ _ hj]; exact hlt)).toNat : Int)) := by
        rw [hown.cellAt j (by omega)]; exact byteCells_at _ _ (by rw [partB_length _ _ _ _ hj]; exact hlt)
      have hv : (((48 + f + (0) * (j : Int)).toNat.toUInt8).toNat : Int) = 48 + f + (0) * (j : Int) := by
        have e : (48 + f + (0) * (j : Int)).toNat.toUInt8.toNat = (48 + f + (0) * (j : Int)).toNat := by
          simp [Nat.toUInt8, UInt8.toNat_ofNat']; omega
        rw [e]; omega
      have hst := hown.stored j (.int .u8 (48 + f + (0) * (j : Int)))
      rw [← hv, byteCells_set, partB_set _ _ _ _ hlt, hv] at hst
      have hbl2 : Below B w (wr.setCell ⟨B, j, none⟩ (.int .u8 (48 + f + (0) * (j : Int)))) := hbl.setCell (p := ⟨B, j, none⟩) (Nat.le_refl _) _
      have HST := Lib.hid (And.intro hst.1 hbl2)
      clear hst hbl2 hv hown hbl
      go_wp2
      go_roundw
      case rel => exact ⟨j + 1, by omega, by go_num, by rw [show 48 + f = 48 + f + (0) * (j : Int) from by omega]; exact HST.out.1, by rw [show 48 + f = 48 + f + (0) * (j : Int) from by omega]; exact HST.out.2⟩
      case measure => simp [intOf]; omega
    · obtain rfl : j = k := by omega
      clear hlt
      obtain ⟨L, hL⟩ : ∃ L, L = rowB f (0) j := ⟨_, rfl⟩
      have hLl : L.length = j := by rw [hL]; exact rowB_length _ _ _
      have hLat : ∀ i (h : i < L.length), (L[i].toNat : Int) = 48 + f + (0) * (i : Int) := by
        intro i h
        have hx := HF.out (i : Int) (by omega) (by omega)
        have := rowB_at f (0) j i (by omega) (by omega) (by omega)
        simp only [hL]; exact this
      have hbat : ∀ i, i < L.length → bat ⟨L.toArray⟩ i = 48 + f + (0) * (i : Int) := fun i h => by rw [bat_list L i h]; exact hLat i h
      rw [partB_all, ← hL] at hown
      clear hL
      have hownL : wr.ownsRow B 5 1 (.slice (some ⟨B, 0, none⟩) j j) L.length (Lib.byteCells L) := by rw [hLl]; exact hown
      have hcv := own_bytes hownL Try.prog 35 9 Try.underlying35 Try.underlying5 Try.underlying9
      have hweak : weakB ⟨L.toArray⟩ = true := row_weak L (48 + f) (0) (by omega) (by omega) (by omega) hbat (fun i h => by have := HF.out (i : Int) (by omega) (by omega); omega)
      have hzL : (⟨L.toArray⟩ : ByteArray).size ≤ maxLen := by unfold maxLen; simp [ByteArray.size]; omega
      have r1 := fun w => (weak_any ⟨L.toArray⟩ hzL w).mono (fun e w' h => (show e = .returned (.bool true) ∧ Below w.heap.size w w' from ⟨by rw [h.1, hweak], h.2⟩))
      have R1 := Lib.hid r1
      have HB1 := Lib.hid hbat
      have HL := Lib.hid hLat
      clear r1 hweak hzL hbat hLat hown
      obtain ⟨a1, a2⟩ := tmod_bd x3 (j : Int) (by omega)
      obtain ⟨a3, a4⟩ := tmod_bd x4 10 (by omega)
      have hj0 : ((j : Int) == 0) = false := by rw [beq_eq_false_iff_ne]; omega
      have hj1 : (0 : Int) < (j : Int) := by omega
      have hBr : B < wr.heap.size := (hownL.lt B rfl).2
      have i0' : 0 ≤ x3.tmod (j : Int) % (j : Int) := Int.emod_nonneg _ (by omega)
      have i1' : x3.tmod (j : Int) % (j : Int) < (j : Int) := Int.emod_lt_of_pos _ hj1
      obtain ⟨idx, hidx⟩ : ∃ idx : Nat, idx = (x3.tmod (j : Int) % (j : Int)).toNat := ⟨_, rfl⟩
      have hidx2 : idx < j := by omega
      have HI := Lib.hid hidx
      clear hidx
      go_wp2_with fail
      refine (R1.out _).mono ?_
      rintro e w2 ⟨rfl, b2⟩
      have hown2 : w2.ownsRow B 5 1 (.slice (some ⟨B, 0, none⟩) j j) L.length (Lib.byteCells L) := by
        refine ⟨hownL.1, ?_⟩
        rcases hownL.2 with ⟨h, _⟩ | ⟨g, cap, cur, h, hb, hg, rest⟩
        · simp at h
        · refine .inr ⟨g, cap, cur, h, hb, ?_, rest⟩
          have : g = B := by simp at h; exact h.1.symm
          rw [b2.block g (by rw [this]; exact hBr)]; exact hg
      have hbl2 : Below B w w2 := hbl.trans (b2.mono (by omega))
      clear hownL hcv hbl b2
      have hown2j : w2.ownsRow B 5 1 (.slice (some ⟨B, 0, none⟩) j j) j (Lib.byteCells L) := by have h := hown2; rw [hLl] at h; exact h
      have hcell : w2.cell? ⟨B, (x3.tmod (j : Int) % (j : Int)).toNat, none⟩ = some (.int .u8 ((L[idx]'(by omega)).toNat : Int)) := by
        rw [← HI.out, hown2j.cellAt idx (by omega)]; exact byteCells_at _ _ (by omega)
      have hfr : w2.frozen? ⟨B, (x3.tmod (j : Int) % (j : Int)).toNat, none⟩ = false := hown2j.frozenAt _
      obtain ⟨d, hd⟩ : ∃ d : UInt8, (d.toNat : Int) = 48 + x4.tmod 10 % 10 := by
        refine ⟨(48 + x4.tmod 10 % 10).toNat.toUInt8, ?_⟩
        have e : (48 + x4.tmod 10 % 10).toNat.toUInt8.toNat = (48 + x4.tmod 10 % 10).toNat := by
          simp [Nat.toUInt8, UInt8.toNat_ofNat']; omega
        rw [e]; omega
      by_cases heq : (48 + x4.tmod 10 % 10 == ((L[idx]'(by omega)).toNat : Int)) = true
      · have HD := Lib.hid hd
        clear hd
        go_wp2_with fail
        refine (known_any _).mono ?_
        rintro e w3 ⟨rfl, b3⟩
        go_wp2
        go_ret
        exact ⟨rfl, by rw [← HB.out]; exact hbl2.trans (b3.mono (by have := hbl2.size; have := HB.out; omega))⟩
      · have heq' : (48 + x4.tmod 10 % 10 == ((L[idx]'(by omega)).toNat : Int)) = false := by simpa using heq
        have hst := hown2j.stored idx (.int .u8 (48 + x4.tmod 10 % 10))
        rw [← hd, byteCells_set, hd] at hst
        have hnot : weakB ⟨(L.set idx d).toArray⟩ = false := by
          refine turned_not_weak ⟨L.toArray⟩ _ j idx (48 + f) (0) (by omega) (by simp [ByteArray.size]; exact hLl) (by simp [ByteArray.size]; exact hLl) hk5 hidx2 (fun i h => HB1.out i (by omega)) ?_ ?_
          · intro i h hne
            rw [bat_list _ i (by simp; omega), bat_list _ i (by omega)]
            simp [List.getElem_set, Ne.symm hne]
          · rw [bat_list _ idx (by simp; omega), bat_list _ idx (by omega)]
            simp only [List.getElem_set_self]
            rw [hd]
            intro e; rw [e] at heq'; simp at heq'
        have hownS : (w2.setCell ⟨B, (x3.tmod (j : Int) % (j : Int)).toNat, none⟩ (.int .u8 (48 + x4.tmod 10 % 10))).ownsRow B 5 1 (.slice (some ⟨B, 0, none⟩) j j) (L.set idx d).length (Lib.byteCells (L.set idx d)) := by
          rw [← HI.out]; have := hst.1; simpa [hLl] using this
        have hcv := own_bytes hownS Try.prog 35 9 Try.underlying35 Try.underlying5 Try.underlying9
        have hbl3 : Below B w (w2.setCell ⟨B, (x3.tmod (j : Int) % (j : Int)).toNat, none⟩ (.int .u8 (48 + x4.tmod 10 % 10))) := hbl2.setCell (p := ⟨B, _, none⟩) (Nat.le_refl _) _
        have hzL : (⟨(L.set idx d).toArray⟩ : ByteArray).size ≤ maxLen := by unfold maxLen; simp [ByteArray.size]; omega
        have r2 := fun w => (weak_any ⟨(L.set idx d).toArray⟩ hzL w).mono (fun e w' h => (show e = .returned (.bool false) ∧ Below w.heap.size w w' from ⟨by rw [h.1, hnot], h.2⟩))
        have R2 := Lib.hid r2
        have HD := Lib.hid hd
        clear r2 hnot hzL hst hown2 hown2j hownS hd heq hbl2
        go_wp2_with fail
        refine (R2.out _).mono ?_
        rintro e w3 ⟨rfl, b3⟩
        go_wp2_with fail
        refine (known_any _).mono ?_
        rintro e w4 ⟨rfl, b4⟩
        go_wp2
        go_ret
        exact ⟨rfl, by rw [← HB.out]; exact (hbl3.trans (b3.mono (by have := hbl3.size; have := HB.out; omega))).trans (b4.mono (by have := b3.size; have := hbl3.size; have := HB.out; omega))⟩

set_option maxHeartbeats 4000000 in
set_option maxRecDepth 100000 in
theorem weak_m2 (x0 x1 x2 x3 x4 : Int) (w : World) (hm : x2.tmod 3 % 3 = 2) :
    Calls Try.prog 7 #[.int .i64 x0, .int .i64 x1, .int .i64 x2, .int .i64 x3, .int .i64 x4] w fun e w' => e = .returned (.bool true) ∧ Below w.heap.size w w' := by
  obtain ⟨i0, hi, hz0, hz1, hz2⟩ := info_parts Try.info5
  obtain ⟨t1, t2⟩ := tmod_bd x1 8 (by omega)
  obtain ⟨t3, t4⟩ := tmod_bd x0 10 (by omega)
  obtain ⟨t5, t6⟩ := tmod_bd x2 3 (by omega)
  obtain ⟨B, hB⟩ : ∃ B, B = w.heap.size := ⟨_, rfl⟩
  have g1 : (x2.tmod 3 % 3 - 1 == 1) = true := by rw [hm]; rfl
  have g2 : (x2.tmod 3 % 3 - 1 == -1) = false := by rw [hm]; rfl
  have hst : x2.tmod 3 % 3 - 1 = 1 := by omega
  have hK0 : 5 ≤ min (5 + x1.tmod 8 % 8) 8 := by omega
  have hK1 : min (5 + x1.tmod 8 % 8) 8 ≤ 12 := by omega
  have hF : ∀ i : Int, 0 ≤ i → i < min (5 + x1.tmod 8 % 8) 8 → 0 ≤ (x0.tmod 10 % 10 % 3) + (1) * i ∧ (x0.tmod 10 % 10 % 3) + (1) * i ≤ 9 := by intro i h1 h2; omega
  have hF0 : 0 ≤ (x0.tmod 10 % 10 % 3) ∧ (x0.tmod 10 % 10 % 3) ≤ 9 := by omega
  have HS := Lib.hid (And.intro hst (And.intro hK0 (And.intro hK1 (And.intro hF hF0))))
  clear hst hK0 hK1 hF hm hF0
  go_enter Try.func7, Try.ntmps7
  have hK0 := HS.out.2.1
  have hK1 := HS.out.2.2.1
  obtain ⟨k, hk⟩ := Int.eq_ofNat_of_zero_le (show 0 ≤ min (5 + x1.tmod 8 % 8) 8 by omega)
  obtain ⟨f, hf⟩ : ∃ f, f = (x0.tmod 10 % 10 % 3) := ⟨_, rfl⟩
  have hk5 : 5 ≤ k := by omega
  have hk12 : k ≤ 12 := by omega
  have HF : Hid (∀ i : Int, 0 ≤ i → i < (k : Int) → 0 ≤ f + (1) * i ∧ f + (1) * i ≤ 9) := Lib.hid (by rw [hf, ← hk]; exact HS.out.2.2.2.1)
  obtain ⟨f0, f9⟩ : 0 ≤ f ∧ f ≤ 9 := by rw [hf]; exact HS.out.2.2.2.2
  have HE := Lib.hid (And.intro hk (And.intro hf HS.out.1))
  clear hK0 hK1 HS hk hf
  go_wp2_with (first
    | (at_make; rw [HE.out.2.2, ← HE.out.2.1, HE.out.1]; clear g1 g2 t1 t2 t3 t4 t5 t6; refine wpList_make_full _ rfl _ _ 35 rfl B 5 i0 (.int .u8 0) 1 Try.underlying35 hi hz0 hz1 _ _ _ _ k rfl rfl rfl rfl (by rw [hz2]; omega) (by unfold maxLen; omega) (by rw [hB]; exact Nat.le_refl _) ?_; intro w1 hown hgrow))
  rw [bytes_zero, ← hB] at hown
  rw [← hB]
  have hbl0 : Below B w w1 := by rw [hB]; exact (Below.refl _ _).grown hgrow (Nat.le_refl _) (by intro k hk; cases hk)
  have hown0 : w1.ownsRow B 5 1 (.slice (some ⟨B, 0, none⟩) k k) k (Lib.byteCells (partB f (1) k 0)) := by simpa [partB] using hown
  have HB := Lib.hid hB
  clear hB hown hgrow
  go_loopw [15, 49] (fun _ i wr => ∃ j : Nat, j ≤ k ∧ i = .int .i64 j ∧ wr.ownsRow B 5 1 (.slice (some ⟨B, 0, none⟩) k k) k (Lib.byteCells (partB f (1) k j)) ∧ Below B w wr) (fun _ i _ => k - (intOf i).toNat)
  case atStart => exact ⟨0, Nat.zero_le _, rfl, hown0, hbl0⟩
  case round =>
    obtain ⟨j, hj, rfl, hown, hbl⟩ := hrel
    clear hown0 hbl0
    by_cases hlt : j < k
    · have hx := HF.out (j : Int) (by omega) (by omega)
      have q0 : (0 : Int) ≤ (j : Int) := by omega
      have q1 : (j : Int) < (k : Int) := by omega
      have q2 : (j : Int) ≤ 12 := by omega
      have hfr := hown.frozenAt j
      have hcell : wr.cell? ⟨B, j, none⟩ = some (.int .u8 (((partB f (1) k j)[j]'(by rw [partB_length _ _ _ _ hj]; exact hlt)).toNat : Int)) := by
        rw [hown.cellAt j (by omega)]; exact byteCells_at _ _ (by rw [partB_length _ _ _ _ hj]; exact hlt)
      have hv : (((48 + f + (1) * (j : Int)).toNat.toUInt8).toNat : Int) = 48 + f + (1) * (j : Int) := by
        have e : (48 + f + (1) * (j : Int)).toNat.toUInt8.toNat = (48 + f + (1) * (j : Int)).toNat := by
          simp [Nat.toUInt8, UInt8.toNat_ofNat']; omega
        rw [e]; omega
      have hst := hown.stored j (.int .u8 (48 + f + (1) * (j : Int)))
      rw [← hv, byteCells_set, partB_set _ _ _ _ hlt, hv] at hst
      have hbl2 : Below B w (wr.setCell ⟨B, j, none⟩ (.int .u8 (48 + f + (1) * (j : Int)))) := hbl.setCell (p := ⟨B, j, none⟩) (Nat.le_refl _) _
      have HST := Lib.hid (And.intro hst.1 hbl2)
      clear hst hbl2 hv hown hbl
      go_wp2
      go_roundw
      case rel => exact ⟨j + 1, by omega, by go_num, by rw [show 48 + f + (j : Int) = 48 + f + (1) * (j : Int) from by omega]; exact HST.out.1, by rw [show 48 + f + (j : Int) = 48 + f + (1) * (j : Int) from by omega]; exact HST.out.2⟩
      case measure => simp [intOf]; omega
    · obtain rfl : j = k := by omega
      clear hlt
      obtain ⟨L, hL⟩ : ∃ L, L = rowB f (1) j := ⟨_, rfl⟩
      have hLl : L.length = j := by rw [hL]; exact rowB_length _ _ _
      have hLat : ∀ i (h : i < L.length), (L[i].toNat : Int) = 48 + f + (1) * (i : Int) := by
        intro i h
        have hx := HF.out (i : Int) (by omega) (by omega)
        have := rowB_at f (1) j i (by omega) (by omega) (by omega)
        simp only [hL]; exact this
      have hbat : ∀ i, i < L.length → bat ⟨L.toArray⟩ i = 48 + f + (1) * (i : Int) := fun i h => by rw [bat_list L i h]; exact hLat i h
      rw [partB_all, ← hL] at hown
      clear hL
      have hownL : wr.ownsRow B 5 1 (.slice (some ⟨B, 0, none⟩) j j) L.length (Lib.byteCells L) := by rw [hLl]; exact hown
      have hcv := own_bytes hownL Try.prog 35 9 Try.underlying35 Try.underlying5 Try.underlying9
      have hweak : weakB ⟨L.toArray⟩ = true := row_weak L (48 + f) (1) (by omega) (by omega) (by omega) hbat (fun i h => by have := HF.out (i : Int) (by omega) (by omega); omega)
      have hzL : (⟨L.toArray⟩ : ByteArray).size ≤ maxLen := by unfold maxLen; simp [ByteArray.size]; omega
      have r1 := fun w => (weak_any ⟨L.toArray⟩ hzL w).mono (fun e w' h => (show e = .returned (.bool true) ∧ Below w.heap.size w w' from ⟨by rw [h.1, hweak], h.2⟩))
      have R1 := Lib.hid r1
      have HB1 := Lib.hid hbat
      have HL := Lib.hid hLat
      clear r1 hweak hzL hbat hLat hown
      obtain ⟨a1, a2⟩ := tmod_bd x3 (j : Int) (by omega)
      obtain ⟨a3, a4⟩ := tmod_bd x4 10 (by omega)
      have hj0 : ((j : Int) == 0) = false := by rw [beq_eq_false_iff_ne]; omega
      have hj1 : (0 : Int) < (j : Int) := by omega
      have hBr : B < wr.heap.size := (hownL.lt B rfl).2
      have i0' : 0 ≤ x3.tmod (j : Int) % (j : Int) := Int.emod_nonneg _ (by omega)
      have i1' : x3.tmod (j : Int) % (j : Int) < (j : Int) := Int.emod_lt_of_pos _ hj1
      obtain ⟨idx, hidx⟩ : ∃ idx : Nat, idx = (x3.tmod (j : Int) % (j : Int)).toNat := ⟨_, rfl⟩
      have hidx2 : idx < j := by omega
      have HI := Lib.hid hidx
      clear hidx
      go_wp2_with fail
      refine (R1.out _).mono ?_
      rintro e w2 ⟨rfl, b2⟩
      have hown2 : w2.ownsRow B 5 1 (.slice (some ⟨B, 0, none⟩) j j) L.length (Lib.byteCells L) := by
        refine ⟨hownL.1, ?_⟩
        rcases hownL.2 with ⟨h, _⟩ | ⟨g, cap, cur, h, hb, hg, rest⟩
        · simp at h
        · refine .inr ⟨g, cap, cur, h, hb, ?_, rest⟩
          have : g = B := by simp at h; exact h.1.symm
          rw [b2.block g (by rw [this]; exact hBr)]; exact hg
      have hbl2 : Below B w w2 := hbl.trans (b2.mono (by omega))
      clear hownL hcv hbl b2
      have hown2j : w2.ownsRow B 5 1 (.slice (some ⟨B, 0, none⟩) j j) j (Lib.byteCells L) := by have h := hown2; rw [hLl] at h; exact h
      have hcell : w2.cell? ⟨B, (x3.tmod (j : Int) % (j : Int)).toNat, none⟩ = some (.int .u8 ((L[idx]'(by omega)).toNat : Int)) := by
        rw [← HI.out, hown2j.cellAt idx (by omega)]; exact byteCells_at _ _ (by omega)
      have hfr : w2.frozen? ⟨B, (x3.tmod (j : Int) % (j : Int)).toNat, none⟩ = false := hown2j.frozenAt _
      obtain ⟨d, hd⟩ : ∃ d : UInt8, (d.toNat : Int) = 48 + x4.tmod 10 % 10 := by
        refine ⟨(48 + x4.tmod 10 % 10).toNat.toUInt8, ?_⟩
        have e : (48 + x4.tmod 10 % 10).toNat.toUInt8.toNat = (48 + x4.tmod 10 % 10).toNat := by
          simp [Nat.toUInt8, UInt8.toNat_ofNat']; omega
        rw [e]; omega
      by_cases heq : (48 + x4.tmod 10 % 10 == ((L[idx]'(by omega)).toNat : Int)) = true
      · have HD := Lib.hid hd
        clear hd
        go_wp2_with fail
        refine (known_any _).mono ?_
        rintro e w3 ⟨rfl, b3⟩
        go_wp2
        go_ret
        exact ⟨rfl, by rw [← HB.out]; exact hbl2.trans (b3.mono (by have := hbl2.size; have := HB.out; omega))⟩
      · have heq' : (48 + x4.tmod 10 % 10 == ((L[idx]'(by omega)).toNat : Int)) = false := by simpa using heq
        have hst := hown2j.stored idx (.int .u8 (48 + x4.tmod 10 % 10))
        rw [← hd, byteCells_set, hd] at hst
        have hnot : weakB ⟨(L.set idx d).toArray⟩ = false := by
          refine turned_not_weak ⟨L.toArray⟩ _ j idx (48 + f) (1) (by omega) (by simp [ByteArray.size]; exact hLl) (by simp [ByteArray.size]; exact hLl) hk5 hidx2 (fun i h => HB1.out i (by omega)) ?_ ?_
          · intro i h hne
            rw [bat_list _ i (by simp; omega), bat_list _ i (by omega)]
            simp [List.getElem_set, Ne.symm hne]
          · rw [bat_list _ idx (by simp; omega), bat_list _ idx (by omega)]
            simp only [List.getElem_set_self]
            rw [hd]
            intro e; rw [e] at heq'; simp at heq'
        have hownS : (w2.setCell ⟨B, (x3.tmod (j : Int) % (j : Int)).toNat, none⟩ (.int .u8 (48 + x4.tmod 10 % 10))).ownsRow B 5 1 (.slice (some ⟨B, 0, none⟩) j j) (L.set idx d).length (Lib.byteCells (L.set idx d)) := by
          rw [← HI.out]; have := hst.1; simpa [hLl] using this
        have hcv := own_bytes hownS Try.prog 35 9 Try.underlying35 Try.underlying5 Try.underlying9
        have hbl3 : Below B w (w2.setCell ⟨B, (x3.tmod (j : Int) % (j : Int)).toNat, none⟩ (.int .u8 (48 + x4.tmod 10 % 10))) := hbl2.setCell (p := ⟨B, _, none⟩) (Nat.le_refl _) _
        have hzL : (⟨(L.set idx d).toArray⟩ : ByteArray).size ≤ maxLen := by unfold maxLen; simp [ByteArray.size]; omega
        have r2 := fun w => (weak_any ⟨(L.set idx d).toArray⟩ hzL w).mono (fun e w' h => (show e = .returned (.bool false) ∧ Below w.heap.size w w' from ⟨by rw [h.1, hnot], h.2⟩))
        have R2 := Lib.hid r2
        have HD := Lib.hid hd
        clear r2 hnot hzL hst hown2 hown2j hownS hd heq hbl2
        go_wp2_with fail
        refine (R2.out _).mono ?_
        rintro e w3 ⟨rfl, b3⟩
        go_wp2_with fail
        refine (known_any _).mono ?_
        rintro e w4 ⟨rfl, b4⟩
        go_wp2
        go_ret
        exact ⟨rfl, by rw [← HB.out]; exact (hbl3.trans (b3.mono (by have := hbl3.size; have := HB.out; omega))).trans (b4.mono (by have := b3.size; have := hbl3.size; have := HB.out; omega))⟩

theorem weak_walk (x0 x1 x2 x3 x4 : Int) (w : World) (h0 : (Lit.int .i64 x0).wf = true) (h1 : (Lit.int .i64 x1).wf = true) (h2 : (Lit.int .i64 x2).wf = true) (h3 : (Lit.int .i64 x3).wf = true) (h4 : (Lit.int .i64 x4).wf = true) :
    Calls Try.prog 7 #[.int .i64 x0, .int .i64 x1, .int .i64 x2, .int .i64 x3, .int .i64 x4] w fun e w' => e = .returned (.bool true) ∧ Below w.heap.size w w' := by
  obtain ⟨t5, t6⟩ := tmod_bd x2 3 (by omega)
  have hm : x2.tmod 3 % 3 = 0 ∨ x2.tmod 3 % 3 = 1 ∨ x2.tmod 3 % 3 = 2 := by omega
  rcases hm with hm | hm | hm
  · exact weak_m0 x0 x1 x2 x3 x4 w hm
  · exact weak_m1 x0 x1 x2 x3 x4 w hm
  · exact weak_m2 x0 x1 x2 x3 x4 w hm
end Go.Proofs.Ytiomokjidipjkaa
