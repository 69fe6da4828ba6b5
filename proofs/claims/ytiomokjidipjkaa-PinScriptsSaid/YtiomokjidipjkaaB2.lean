/- the law's text of signs, walked -/
import Derived.Test.YtiomokjidipjkaaB1
namespace Go.Proofs.Ytiomokjidipjkaa
open Go.RowKit
/-- a slice of signs that came in -/
def SignRow (w : World) (v : Value) : Prop :=
  ∃ ao n c, v = .slice ao n c ∧ n ≤ maxLen ∧ (n = 0 ∨ ∃ b off, ao = some ⟨b, off, none⟩ ∧ b < w.heap.size ∧ ∀ i, i < n → ∃ k r : Int, w.cell? ⟨b, off + i * 2, none⟩ = some (.int .i64 k) ∧ w.cell? ⟨b, off + i * 2 + 1, none⟩ = some (.int .i32 r) ∧ -9223372036854775808 ≤ k ∧ k ≤ 9223372036854775807 ∧ -2147483648 ≤ r ∧ r ≤ 2147483647)
theorem tmod_lt9 (k : Int) : -9 < k.tmod 9 ∧ k.tmod 9 < 9 := by
  have h1 := Int.tmod_lt_of_pos k (show (0 : Int) < 9 by omega)
  have h2 := Int.lt_tmod_of_pos k (show (0 : Int) < 9 by omega)
  omega
theorem tmod_lt10 (k : Int) : -10 < k.tmod 10 ∧ k.tmod 10 < 10 := by
  have h1 := Int.tmod_lt_of_pos k (show (0 : Int) < 10 by omega)
  have h2 := Int.lt_tmod_of_pos k (show (0 : Int) < 10 by omega)
  omega
def cells32 (l : List Int) : List Value := l.map fun r => Value.int .i32 r
set_option maxHeartbeats 4000000 in
set_option maxRecDepth 100000 in
theorem text_any (v : Value) (w : World) (hv : SignRow w v) :
    Calls Try.prog 10 #[v] w fun e w' => ∃ t, e = .returned (.string t) ∧ t.size ≤ 80 ∧ Below w.heap.size w w' := by
  obtain ⟨ao, n, c, rfl, hn, hrow⟩ := hv
  unfold maxLen at hn
  obtain ⟨i0, hi, hz0, hz1, hz2⟩ := info_parts Try.info21
  obtain ⟨B, hB⟩ : ∃ B, B = w.heap.size := ⟨_, rfl⟩
  rw [← hB] at hrow
  have HRow := Lib.hid hrow
  clear hrow
  go_enter Try.func10, Try.ntmps10
  go_wp2
  have HB := Lib.hid hB
  clear hB
  go_loopw [3, 4] (fun s i wr => ∃ (k : Nat) (xs : List Int), k ≤ n ∧ k ≤ 20 ∧ i = .int .i64 k ∧ xs.length = k ∧ wr.ownsRow B 21 1 s k (cells32 xs) ∧ Below B w wr) (fun _ i _ => n - (intOf i).toNat)
  case atStart => exact ⟨0, [], Nat.zero_le _, by omega, rfl, rfl, World.ownsRow_nil _ _ _ _, by rw [HB.out]; exact Below.refl _ _⟩
  case round =>
    obtain ⟨k, xs, hk, hk20, rfl, hxl, hown, hbl⟩ := hrel
    obtain ⟨va, vc, rfl, _, _⟩ := own_len hown
    by_cases hlt : k < n ∧ k < 20
    · obtain ⟨hkn, hk2⟩ := hlt
      have hbsz := hbl.size
      obtain ⟨b, off, rfl, hbB, hcells⟩ := HRow.out.resolve_left (by omega)
      obtain ⟨kd, r, hc0, hc1, hk0, hk1, hr0, hr1⟩ := hcells k hkn
      have d0 : wr.cell? ⟨b, off + k * 2, none⟩ = some (.int .i64 kd) := (hbl.cell (p := ⟨b, _, none⟩) hbB).trans hc0
      have d1 : wr.cell? ⟨b, off + k * 2 + 1, none⟩ = some (.int .i32 r) := (hbl.cell (p := ⟨b, _, none⟩) hbB).trans hc1
      obtain ⟨t1, t2⟩ := tmod_lt9 kd
      obtain ⟨t3, t4⟩ := tmod_lt10 r
      clear hc0 hc1 hcells
      have hm9 : kd.tmod 9 % 9 = 0 ∨ kd.tmod 9 % 9 = 1 ∨ kd.tmod 9 % 9 = 2 ∨ kd.tmod 9 % 9 = 3 ∨ kd.tmod 9 % 9 = 4 ∨ kd.tmod 9 % 9 = 5 ∨ kd.tmod 9 % 9 = 6 ∨ kd.tmod 9 % 9 = 7 ∨ kd.tmod 9 % 9 = 8 := by omega
      have e1 : 0 ≤ r.tmod 10 % 10 := by omega
      have e2 : r.tmod 10 % 10 ≤ 9 := by omega
      have Hb := Lib.hid (And.intro hk0 (And.intro hk1 (And.intro hr0 hr1)))
      clear hk0 hk1 hr0 hr1
      rcases hm9 with hm | hm | hm | hm | hm | hm | hm | hm | hm
      · 
        have g0 : (kd.tmod 9 % 9 == 0) = true := by rw [hm]; rfl
        clear hm
        go_wp2_with (first
          | (at_builtin; refine wpList_append_own _ rfl _ _ 22 rfl B 21 i0 (.int .i32 0) 1 4 Try.underlying22 hi hz0 hz1 hz2 rfl (by decide) _ _ _ rfl (hown.alloc _) ⟨wr.heap.size, 0, none⟩ 1 1 [.int .i32 (48 + r.tmod 10 % 10)] rfl rfl ?c1 ?c2 ?c3 ?c4 ?c5 ?_))
        case c1 =>
          intro j u hj
          match j, hj with
          | 0, hj => simp at hj; subst hj; simp [Addr.add]
        case c2 => intro u hu; simp at hu; subst hu; rfl
        case c3 => unfold maxLen; omega
        case c4 => omega
        case c5 => have := HB.out; simp; omega
        · intro v' w3 hown3 hgrow3 _
          have hl3 : (cells32 xs ++ [Value.int IntKind.i32 (48 + r.tmod 10 % 10)]) = cells32 (xs ++ [48 + r.tmod 10 % 10]) := by simp [cells32]
          rw [hl3] at hown3
          have hbl3 : Below B w w3 := (hbl.alloc (by have := HB.out; omega) _).grown hgrow3 (by have := HB.out; simp; omega) (by intro k hk; exact (hown.lt k hk).1)
          have HO := Lib.hid hown3
          clear hown hgrow3 hl3 hown3
          go_wp2
          go_roundw
          case rel => exact ⟨k + 1, xs ++ [48 + r.tmod 10 % 10], by omega, by omega, by go_num, by simp; exact hxl, HO.out, hbl3⟩
          case measure => simp [intOf]; omega
      · 
        have g0 : (kd.tmod 9 % 9 == 0) = false := by rw [hm]; rfl
        have g1 : (kd.tmod 9 % 9 == 1) = true := by rw [hm]; rfl
        clear hm
        go_wp2_with (first
          | (at_builtin; refine wpList_append_own _ rfl _ _ 22 rfl B 21 i0 (.int .i32 0) 1 4 Try.underlying22 hi hz0 hz1 hz2 rfl (by decide) _ _ _ rfl (hown.alloc _) ⟨wr.heap.size, 0, none⟩ 1 1 [.int .i32 (48 + r.tmod 10 % 10)] rfl rfl ?c1 ?c2 ?c3 ?c4 ?c5 ?_))
        case c1 =>
          intro j u hj
          match j, hj with
          | 0, hj => simp at hj; subst hj; simp [Addr.add]
        case c2 => intro u hu; simp at hu; subst hu; rfl
        case c3 => unfold maxLen; omega
        case c4 => omega
        case c5 => have := HB.out; simp; omega
        · intro v' w3 hown3 hgrow3 _
          have hl3 : (cells32 xs ++ [Value.int IntKind.i32 (48 + r.tmod 10 % 10)]) = cells32 (xs ++ [48 + r.tmod 10 % 10]) := by simp [cells32]
          rw [hl3] at hown3
          have hbl3 : Below B w w3 := (hbl.alloc (by have := HB.out; omega) _).grown hgrow3 (by have := HB.out; simp; omega) (by intro k hk; exact (hown.lt k hk).1)
          have HO := Lib.hid hown3
          clear hown hgrow3 hl3 hown3
          go_wp2
          go_roundw
          case rel => exact ⟨k + 1, xs ++ [48 + r.tmod 10 % 10], by omega, by omega, by go_num, by simp; exact hxl, HO.out, hbl3⟩
          case measure => simp [intOf]; omega
      · 
        have g0 : (kd.tmod 9 % 9 == 0) = false := by rw [hm]; rfl
        have g1 : (kd.tmod 9 % 9 == 1) = false := by rw [hm]; rfl
        have g2 : (kd.tmod 9 % 9 == 2) = true := by rw [hm]; rfl
        clear hm
        go_wp2_with (first
          | (at_builtin; refine wpList_append_own _ rfl _ _ 22 rfl B 21 i0 (.int .i32 0) 1 4 Try.underlying22 hi hz0 hz1 hz2 rfl (by decide) _ _ _ rfl (hown.alloc _) ⟨wr.heap.size, 0, none⟩ 1 1 [.int .i32 (48 + r.tmod 10 % 10)] rfl rfl ?c1 ?c2 ?c3 ?c4 ?c5 ?_))
        case c1 =>
          intro j u hj
          match j, hj with
          | 0, hj => simp at hj; subst hj; simp [Addr.add]
        case c2 => intro u hu; simp at hu; subst hu; rfl
        case c3 => unfold maxLen; omega
        case c4 => omega
        case c5 => have := HB.out; simp; omega
        · intro v' w3 hown3 hgrow3 _
          have hl3 : (cells32 xs ++ [Value.int IntKind.i32 (48 + r.tmod 10 % 10)]) = cells32 (xs ++ [48 + r.tmod 10 % 10]) := by simp [cells32]
          rw [hl3] at hown3
          have hbl3 : Below B w w3 := (hbl.alloc (by have := HB.out; omega) _).grown hgrow3 (by have := HB.out; simp; omega) (by intro k hk; exact (hown.lt k hk).1)
          have HO := Lib.hid hown3
          clear hown hgrow3 hl3 hown3
          go_wp2
          go_roundw
          case rel => exact ⟨k + 1, xs ++ [48 + r.tmod 10 % 10], by omega, by omega, by go_num, by simp; exact hxl, HO.out, hbl3⟩
          case measure => simp [intOf]; omega
      · 
        have g0 : (kd.tmod 9 % 9 == 0) = false := by rw [hm]; rfl
        have g1 : (kd.tmod 9 % 9 == 1) = false := by rw [hm]; rfl
        have g2 : (kd.tmod 9 % 9 == 2) = false := by rw [hm]; rfl
        have g3 : (kd.tmod 9 % 9 == 3) = true := by rw [hm]; rfl
        clear hm
        go_wp2_with (first
          | (at_builtin; refine wpList_append_own _ rfl _ _ 22 rfl B 21 i0 (.int .i32 0) 1 4 Try.underlying22 hi hz0 hz1 hz2 rfl (by decide) _ _ _ rfl (hown.alloc _) ⟨wr.heap.size, 0, none⟩ 1 1 [.int .i32 (65296 + r.tmod 10 % 10)] rfl rfl ?c1 ?c2 ?c3 ?c4 ?c5 ?_))
        case c1 =>
          intro j u hj
          match j, hj with
          | 0, hj => simp at hj; subst hj; simp [Addr.add]
        case c2 => intro u hu; simp at hu; subst hu; rfl
        case c3 => unfold maxLen; omega
        case c4 => omega
        case c5 => have := HB.out; simp; omega
        · intro v' w3 hown3 hgrow3 _
          have hl3 : (cells32 xs ++ [Value.int IntKind.i32 (65296 + r.tmod 10 % 10)]) = cells32 (xs ++ [65296 + r.tmod 10 % 10]) := by simp [cells32]
          rw [hl3] at hown3
          have hbl3 : Below B w w3 := (hbl.alloc (by have := HB.out; omega) _).grown hgrow3 (by have := HB.out; simp; omega) (by intro k hk; exact (hown.lt k hk).1)
          have HO := Lib.hid hown3
          clear hown hgrow3 hl3 hown3
          go_wp2
          go_roundw
          case rel => exact ⟨k + 1, xs ++ [65296 + r.tmod 10 % 10], by omega, by omega, by go_num, by simp; exact hxl, HO.out, hbl3⟩
          case measure => simp [intOf]; omega
      · 
        have g0 : (kd.tmod 9 % 9 == 0) = false := by rw [hm]; rfl
        have g1 : (kd.tmod 9 % 9 == 1) = false := by rw [hm]; rfl
        have g2 : (kd.tmod 9 % 9 == 2) = false := by rw [hm]; rfl
        have g3 : (kd.tmod 9 % 9 == 3) = false := by rw [hm]; rfl
        have g4 : (kd.tmod 9 % 9 == 4) = true := by rw [hm]; rfl
        clear hm
        go_wp2_with (first
          | (at_builtin; refine wpList_append_own _ rfl _ _ 22 rfl B 21 i0 (.int .i32 0) 1 4 Try.underlying22 hi hz0 hz1 hz2 rfl (by decide) _ _ _ rfl (hown.alloc _) ⟨wr.heap.size, 0, none⟩ 1 1 [.int .i32 (1632 + r.tmod 10 % 10)] rfl rfl ?c1 ?c2 ?c3 ?c4 ?c5 ?_))
        case c1 =>
          intro j u hj
          match j, hj with
          | 0, hj => simp at hj; subst hj; simp [Addr.add]
        case c2 => intro u hu; simp at hu; subst hu; rfl
        case c3 => unfold maxLen; omega
        case c4 => omega
        case c5 => have := HB.out; simp; omega
        · intro v' w3 hown3 hgrow3 _
          have hl3 : (cells32 xs ++ [Value.int IntKind.i32 (1632 + r.tmod 10 % 10)]) = cells32 (xs ++ [1632 + r.tmod 10 % 10]) := by simp [cells32]
          rw [hl3] at hown3
          have hbl3 : Below B w w3 := (hbl.alloc (by have := HB.out; omega) _).grown hgrow3 (by have := HB.out; simp; omega) (by intro k hk; exact (hown.lt k hk).1)
          have HO := Lib.hid hown3
          clear hown hgrow3 hl3 hown3
          go_wp2
          go_roundw
          case rel => exact ⟨k + 1, xs ++ [1632 + r.tmod 10 % 10], by omega, by omega, by go_num, by simp; exact hxl, HO.out, hbl3⟩
          case measure => simp [intOf]; omega
      · 
        have g0 : (kd.tmod 9 % 9 == 0) = false := by rw [hm]; rfl
        have g1 : (kd.tmod 9 % 9 == 1) = false := by rw [hm]; rfl
        have g2 : (kd.tmod 9 % 9 == 2) = false := by rw [hm]; rfl
        have g3 : (kd.tmod 9 % 9 == 3) = false := by rw [hm]; rfl
        have g4 : (kd.tmod 9 % 9 == 4) = false := by rw [hm]; rfl
        have g5 : (kd.tmod 9 % 9 == 5) = true := by rw [hm]; rfl
        clear hm
        go_wp2_with (first
          | (at_builtin; refine wpList_append_own _ rfl _ _ 22 rfl B 21 i0 (.int .i32 0) 1 4 Try.underlying22 hi hz0 hz1 hz2 rfl (by decide) _ _ _ rfl (hown.alloc _) ⟨wr.heap.size, 0, none⟩ 1 1 [.int .i32 (1776 + r.tmod 10 % 10)] rfl rfl ?c1 ?c2 ?c3 ?c4 ?c5 ?_))
        case c1 =>
          intro j u hj
          match j, hj with
          | 0, hj => simp at hj; subst hj; simp [Addr.add]
        case c2 => intro u hu; simp at hu; subst hu; rfl
        case c3 => unfold maxLen; omega
        case c4 => omega
        case c5 => have := HB.out; simp; omega
        · intro v' w3 hown3 hgrow3 _
          have hl3 : (cells32 xs ++ [Value.int IntKind.i32 (1776 + r.tmod 10 % 10)]) = cells32 (xs ++ [1776 + r.tmod 10 % 10]) := by simp [cells32]
          rw [hl3] at hown3
          have hbl3 : Below B w w3 := (hbl.alloc (by have := HB.out; omega) _).grown hgrow3 (by have := HB.out; simp; omega) (by intro k hk; exact (hown.lt k hk).1)
          have HO := Lib.hid hown3
          clear hown hgrow3 hl3 hown3
          go_wp2
          go_roundw
          case rel => exact ⟨k + 1, xs ++ [1776 + r.tmod 10 % 10], by omega, by omega, by go_num, by simp; exact hxl, HO.out, hbl3⟩
          case measure => simp [intOf]; omega
      · 
        have g0 : (kd.tmod 9 % 9 == 0) = false := by rw [hm]; rfl
        have g1 : (kd.tmod 9 % 9 == 1) = false := by rw [hm]; rfl
        have g2 : (kd.tmod 9 % 9 == 2) = false := by rw [hm]; rfl
        have g3 : (kd.tmod 9 % 9 == 3) = false := by rw [hm]; rfl
        have g4 : (kd.tmod 9 % 9 == 4) = false := by rw [hm]; rfl
        have g5 : (kd.tmod 9 % 9 == 5) = false := by rw [hm]; rfl
        have g6 : (kd.tmod 9 % 9 == 6) = true := by rw [hm]; rfl
        clear hm
        go_wp2_with (first
          | (at_builtin; refine wpList_append_own _ rfl _ _ 22 rfl B 21 i0 (.int .i32 0) 1 4 Try.underlying22 hi hz0 hz1 hz2 rfl (by decide) _ _ _ rfl (hown.alloc _) ⟨wr.heap.size, 0, none⟩ 1 1 [.int .i32 (32)] rfl rfl ?c1 ?c2 ?c3 ?c4 ?c5 ?_))
        case c1 =>
          intro j u hj
          match j, hj with
          | 0, hj => simp at hj; subst hj; simp [Addr.add]
        case c2 => intro u hu; simp at hu; subst hu; rfl
        case c3 => unfold maxLen; omega
        case c4 => omega
        case c5 => have := HB.out; simp; omega
        · intro v' w3 hown3 hgrow3 _
          have hl3 : (cells32 xs ++ [Value.int IntKind.i32 (32)]) = cells32 (xs ++ [32]) := by simp [cells32]
          rw [hl3] at hown3
          have hbl3 : Below B w w3 := (hbl.alloc (by have := HB.out; omega) _).grown hgrow3 (by have := HB.out; simp; omega) (by intro k hk; exact (hown.lt k hk).1)
          have HO := Lib.hid hown3
          clear hown hgrow3 hl3 hown3
          go_wp2
          go_roundw
          case rel => exact ⟨k + 1, xs ++ [32], by omega, by omega, by go_num, by simp; exact hxl, HO.out, hbl3⟩
          case measure => simp [intOf]; omega
      · 
        have g0 : (kd.tmod 9 % 9 == 0) = false := by rw [hm]; rfl
        have g1 : (kd.tmod 9 % 9 == 1) = false := by rw [hm]; rfl
        have g2 : (kd.tmod 9 % 9 == 2) = false := by rw [hm]; rfl
        have g3 : (kd.tmod 9 % 9 == 3) = false := by rw [hm]; rfl
        have g4 : (kd.tmod 9 % 9 == 4) = false := by rw [hm]; rfl
        have g5 : (kd.tmod 9 % 9 == 5) = false := by rw [hm]; rfl
        have g6 : (kd.tmod 9 % 9 == 6) = false := by rw [hm]; rfl
        have g7 : (kd.tmod 9 % 9 == 7) = true := by rw [hm]; rfl
        clear hm
        go_wp2_with (first
          | (at_builtin; refine wpList_append_own _ rfl _ _ 22 rfl B 21 i0 (.int .i32 0) 1 4 Try.underlying22 hi hz0 hz1 hz2 rfl (by decide) _ _ _ rfl (hown.alloc _) ⟨wr.heap.size, 0, none⟩ 1 1 [.int .i32 (45)] rfl rfl ?c1 ?c2 ?c3 ?c4 ?c5 ?_))
        case c1 =>
          intro j u hj
          match j, hj with
          | 0, hj => simp at hj; subst hj; simp [Addr.add]
        case c2 => intro u hu; simp at hu; subst hu; rfl
        case c3 => unfold maxLen; omega
        case c4 => omega
        case c5 => have := HB.out; simp; omega
        · intro v' w3 hown3 hgrow3 _
          have hl3 : (cells32 xs ++ [Value.int IntKind.i32 (45)]) = cells32 (xs ++ [45]) := by simp [cells32]
          rw [hl3] at hown3
          have hbl3 : Below B w w3 := (hbl.alloc (by have := HB.out; omega) _).grown hgrow3 (by have := HB.out; simp; omega) (by intro k hk; exact (hown.lt k hk).1)
          have HO := Lib.hid hown3
          clear hown hgrow3 hl3 hown3
          go_wp2
          go_roundw
          case rel => exact ⟨k + 1, xs ++ [45], by omega, by omega, by go_num, by simp; exact hxl, HO.out, hbl3⟩
          case measure => simp [intOf]; omega
      · 
        have g0 : (kd.tmod 9 % 9 == 0) = false := by rw [hm]; rfl
        have g1 : (kd.tmod 9 % 9 == 1) = false := by rw [hm]; rfl
        have g2 : (kd.tmod 9 % 9 == 2) = false := by rw [hm]; rfl
        have g3 : (kd.tmod 9 % 9 == 3) = false := by rw [hm]; rfl
        have g4 : (kd.tmod 9 % 9 == 4) = false := by rw [hm]; rfl
        have g5 : (kd.tmod 9 % 9 == 5) = false := by rw [hm]; rfl
        have g6 : (kd.tmod 9 % 9 == 6) = false := by rw [hm]; rfl
        have g7 : (kd.tmod 9 % 9 == 7) = false := by rw [hm]; rfl
        clear hm
        go_wp2_with (first
          | (at_builtin; refine wpList_append_own _ rfl _ _ 22 rfl B 21 i0 (.int .i32 0) 1 4 Try.underlying22 hi hz0 hz1 hz2 rfl (by decide) _ _ _ rfl (hown.alloc _) ⟨wr.heap.size, 0, none⟩ 1 1 [.int .i32 (r)] rfl rfl ?c1 ?c2 ?c3 ?c4 ?c5 ?_))
        case c1 =>
          intro j u hj
          match j, hj with
          | 0, hj => simp at hj; subst hj; simp [Addr.add]
        case c2 => intro u hu; simp at hu; subst hu; rfl
        case c3 => unfold maxLen; omega
        case c4 => omega
        case c5 => have := HB.out; simp; omega
        · intro v' w3 hown3 hgrow3 _
          have hl3 : (cells32 xs ++ [Value.int IntKind.i32 (r)]) = cells32 (xs ++ [r]) := by simp [cells32]
          rw [hl3] at hown3
          have hbl3 : Below B w w3 := (hbl.alloc (by have := HB.out; omega) _).grown hgrow3 (by have := HB.out; simp; omega) (by intro k hk; exact (hown.lt k hk).1)
          have HO := Lib.hid hown3
          clear hown hgrow3 hl3 hown3
          go_wp2
          go_roundw
          case rel => exact ⟨k + 1, xs ++ [r], by omega, by omega, by go_num, by simp; exact hxl, HO.out, hbl3⟩
          case measure => simp [intOf]; omega
    · have hcv : (convert 22 9 (.slice va k vc)).run Try.prog wr = .ok (.string (runesBytes xs)) wr := by
        rcases hown.2 with ⟨h, h0⟩ | ⟨g, cap, cur, h, _, hg, _⟩
        · simp only [Value.slice.injEq] at h
          obtain ⟨rfl, _, rfl⟩ := h
          rw [run_convert_runes_nil _ 22 9 21 k 0 Try.underlying22 Try.underlying21 Try.underlying9]
          rw [h0] at hxl
          rw [List.eq_nil_of_length_eq_zero hxl]; rfl
        · simp only [Value.slice.injEq] at h
          obtain ⟨rfl, _, rfl⟩ := h
          rw [run_convert_runes _ 22 9 21 ⟨g, 0, none⟩ k vc xs (by omega) Try.underlying22 Try.underlying21 Try.underlying9 ?_]
          · rw [List.take_of_length_le (by omega)]
          · intro j hj
            have e1 : (⟨g, 0, none⟩ : Addr).add j = ⟨g, j, none⟩ := by rw [Addr.add_lit]; simp
            rw [e1, hown.cellAt j (by omega)]
            simp [cells32, List.getElem?_eq_getElem hj, List.getD]
      have hsz : (runesBytes xs).size ≤ 80 := by have := runesBytes_size_le xs; omega
      have HS := Lib.hid hsz
      clear hsz hown
      have hg : ¬ ((k : Int) < (n : Int)) ∨ ¬ ((k : Int) < 20) := by omega
      by_cases hkn : (k : Int) < (n : Int)
      · have hk2 : ¬ ((k : Int) < 20) := by omega
        clear hg hlt
        go_wp2
        go_ret
        exact ⟨_, rfl, HS.out, HB.out ▸ hbl⟩
      · clear hg hlt
        go_wp2
        go_ret
        exact ⟨_, rfl, HS.out, HB.out ▸ hbl⟩
end Go.Proofs.Ytiomokjidipjkaa
