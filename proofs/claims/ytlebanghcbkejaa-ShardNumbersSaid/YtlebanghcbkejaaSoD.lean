/- walks: the law ShardNumbers -/
import Derived.Test.YtlebanghcbkejaaS4
import Derived.Test.YtlebanghcbkejaaSoB
namespace Go.Proofs.Ytlebanghcbkejaa
open Go.RowKit
theorem shV_in (l : List UInt8) : 0 ≤ shV l ∧ shV l < 16 := by unfold shV; omega
def ints16 (cs : Array Value) : Prop := cs.size = 16 ∧ ∀ j, j < 16 → ∃ z : Int, cs[j]? = some (.int .i64 z)
theorem ints16_put {cs : Array Value} (h : ints16 cs) (j : Nat) (z : Int) : ints16 (cs.setIfInBounds j (.int .i64 z)) := by
  refine ⟨by simpa using h.1, fun k hk => ?_⟩
  by_cases e : j = k
  · subst e
    exact ⟨z, Array.getElem?_setIfInBounds_self_of_lt (by rw [h.1]; exact hk)⟩
  · rw [Array.getElem?_setIfInBounds_ne e]; exact h.2 k hk
theorem id_lit (i : Nat) (hi : i < 2000) : digV [by8 (i : Int), by8 ((i : Int) / 256), 3, 0] = .agg #[.int .u8 ((i : Int) % 256), .int .u8 ((i : Int) / 256), .int .u8 3, .int .u8 0] := by
  have e : (i : Int) / 256 % 256 = (i : Int) / 256 := by omega
  unfold digV Lib.byteCells
  simp only [List.map_cons, List.map_nil, by8_int, e]
  rfl
set_option maxHeartbeats 4000000 in
set_option maxRecDepth 100000 in
theorem shardNumbers_walk (w : World) :
    Calls Try.prog 7 #[] w fun e w' => e = .returned (.bool true) ∧ Below w.heap.size w w' := by
  go_enter Try.func7, Try.ntmps7
  go_wp2_with fail
  go_loopw [2] (fun i wr => ∃ k : Nat, k ≤ 2000 ∧ i = .int .i64 k ∧ Hid (∃ cs, ints16 cs ∧ Bk wr w.heap.size 41 cs) ∧ Below w.heap.size w wr) (fun i _ => 2000 - (intOf i).toNat)
  case atStart =>
    refine ⟨0, by omega, rfl, Lib.hid ⟨_, ?_, Bk.new rfl _ _⟩, (Below.refl _ _).alloc (Nat.le_refl _) _⟩
    refine ⟨rfl, fun j hj => ?_⟩
    have h : j = 0 ∨ j = 1 ∨ j = 2 ∨ j = 3 ∨ j = 4 ∨ j = 5 ∨ j = 6 ∨ j = 7 ∨ j = 8 ∨ j = 9 ∨ j = 10 ∨ j = 11 ∨ j = 12 ∨ j = 13 ∨ j = 14 ∨ j = 15 := by omega
    rcases h with rfl | rfl | rfl | rfl | rfl | rfl | rfl | rfl | rfl | rfl | rfl | rfl | rfl | rfl | rfl | rfl
    all_goals exact ⟨0, rfl⟩
  case round =>
    obtain ⟨k, hk, rfl, hcs, bw⟩ := hrel
    have hz := bw.size
    by_cases hlt : k < 2000
    · obtain ⟨l, hl⟩ : ∃ l, l = [by8 (k : Int), by8 ((k : Int) / 256), 3, 0] := ⟨_, rfl⟩
      have hll : l.length = 4 := by rw [hl]; rfl
      have H1 := fun W => of_any l hll W
      have H2 := fun W => rof_any l hll W
      have H3 := fun W => right_any (shV l) W
      have hin := shV_in l
      rw [show inS (shV l) = true from decide_eq_true ⟨hin.1, hin.2⟩] at H3
      have hL := id_lit k hlt
      rw [← hl] at hL
      rw [hL] at H1 H2
      clear hL
      obtain ⟨v, hv⟩ : ∃ v, v = shV l := ⟨_, rfl⟩
      rw [← hv] at H1 H2 H3 hin
      obtain ⟨v, rfl⟩ : ∃ q : Nat, v = (q : Int) := ⟨v.toNat, by omega⟩
      have v0 : (0 : Int) ≤ (v : Int) := by omega
      have v1 : (v : Int) < 16 := by omega
      have H1 := Lib.hid H1
      have H2 := Lib.hid H2
      have H3 := Lib.hid H3
      clear hv hll hl hin
      go_wp2_with fail
      refine (H1.out _).mono ?_
      rintro e w1 ⟨rfl, b1⟩
      have f1 := Bk.under (Bk.new (w := wr) rfl 44 #[.int .u8 ((k : Int) % 256), .int .u8 ((k : Int) / 256), .int .u8 3, .int .u8 0]) b1 (by simp)
      have g0 : w1.cell? ⟨wr.heap.size, 0, none⟩ = some (.int .u8 ((k : Int) % 256)) := f1.cell 0
      have g1 : w1.cell? ⟨wr.heap.size, 1, none⟩ = some (.int .u8 ((k : Int) / 256)) := f1.cell 1
      have g2 : w1.cell? ⟨wr.heap.size, 2, none⟩ = some (.int .u8 3) := f1.cell 2
      have g3 : w1.cell? ⟨wr.heap.size, 3, none⟩ = some (.int .u8 0) := f1.cell 3
      have bw1 : Below w.heap.size w w1 := (bw.alloc hz _).trans (b1.mono (by simp; omega))
      have hcs1 : Hid (∃ cs, ints16 cs ∧ Bk w1 w.heap.size 41 cs) := by
        obtain ⟨cs, h1, h2⟩ := hcs.out
        exact Lib.hid ⟨cs, h1, (h2.more _).under b1 (by simp; have := h2.lt; omega)⟩
      clear f1 b1 hcs H1
      go_wp2_with fail
      refine (H2.out _).mono ?_
      rintro e w2 ⟨rfl, b2⟩
      have hz1 := bw1.size
      obtain ⟨cs, h1, h2⟩ := hcs1.out
      have h3 := h2.under b2 h2.lt
      obtain ⟨z, hzz⟩ := h1.2 v (by omega)
      have c0 : w2.cell? ⟨w.heap.size, v, none⟩ = some (.int .i64 z) := (h3.cell v).trans hzz
      have c1 : w2.frozen? ⟨w.heap.size, v, none⟩ = false := h3.fr v
      have bw2 : Below w.heap.size w w2 := bw1.trans (b2.mono hz1)
      have hfin : Hid (∀ u : Int, ∃ cs, ints16 cs ∧ Bk (w2.setCell ⟨w.heap.size, v, none⟩ (.int .i64 u)) w.heap.size 41 cs) := Lib.hid (fun u => ⟨_, ints16_put h1 v u, h3.put v _⟩)
      clear g0 g1 g2 g3 hcs1 h1 h2 h3 hzz b2 H2
      go_wp2_with fail
      refine (H3.out _).mono ?_
      rintro e w3 ⟨rfl, rfl⟩
      go_wp2_with fail
      go_roundw
      case rel => exact ⟨k + 1, by omega, by go_num, Lib.hid (hfin.out _), bw2.setCell (p := ⟨w.heap.size, v, none⟩) (Nat.le_refl _) _⟩
      case measure => simp [intOf]; omega
    · obtain rfl : k = 2000 := by omega
      clear hcs
      go_wp2_with fail
      go_loopw [5] (fun s wx => ∃ q : Int, -2 ≤ q ∧ q ≤ 19 ∧ s = .int .i64 q ∧ Below w.heap.size w wx) (fun s _ => (19 - intOf s).toNat)
      case atStart => exact ⟨-2, by omega, by omega, rfl, bw⟩
      case round =>
        clear bw hz
        obtain ⟨q, q0, q1, rfl, bw⟩ := hrel
        by_cases hq : q < 19
        · go_wp2_with fail
          go_loopw [6] (fun s wx => ∃ m : Int, -1 ≤ m ∧ m ≤ 11 ∧ s = .int .i64 m ∧ Below w.heap.size w wx) (fun s _ => (11 - intOf s).toNat)
          case atStart => exact ⟨-1, by omega, by omega, rfl, bw⟩
          case round =>
            clear bw
            obtain ⟨m, m0, m1, rfl, bw⟩ := hrel
            by_cases hm : m < 11
            · have F := fun W => first_any q m W
              have R := fun W => right_any q W
              rcases (show q < 0 ∨ (0 ≤ q ∧ q < 16) ∨ (0 ≤ q ∧ 16 ≤ q) by omega) with hs | ⟨hs, hs'⟩ | ⟨hs, hs'⟩
              · rw [first_out (by omega)] at F
                rw [show inS q = false by unfold inS; simp; omega] at R
                have F := Lib.hid F
                have R := Lib.hid R
                go_wp2_with fail
                refine (F.out _).mono ?_
                rintro e w3 ⟨rfl, rfl⟩
                go_wp2_with fail
                refine (R.out _).mono ?_
                rintro e w3 ⟨rfl, rfl⟩
                go_wp2_with fail
                go_roundw
                case rel => first | exact ⟨m + 1, by omega, by omega, rfl, bw⟩ | exact ⟨by omega, by omega⟩ | ((repeat apply Exists.intro); exact ⟨⟨m + 1, by omega, by omega, rfl, bw⟩, rfl⟩)
                case measure => simp [intOf]; omega
              · rw [show inS q = true from decide_eq_true ⟨hs, hs'⟩] at R
                have R := Lib.hid R
                rcases (show m < 1 ∨ (1 ≤ m ∧ m ≤ 8) ∨ 8 < m by omega) with h1 | ⟨h1, h2⟩ | h1
                · rw [firstV_in (N := 1) hs hs' (by unfold clampM; rw [if_pos h1]) (by omega)] at F
                  have F := Lib.hid F
                  go_wp2_with fail
                  refine (F.out _).mono ?_
                  rintro e w3 ⟨rfl, rfl⟩
                  go_wp2_with fail
                  refine (R.out _).mono ?_
                  rintro e w3 ⟨rfl, rfl⟩
                  go_wp2_with fail
                  go_roundw
                  case rel => first | exact ⟨m + 1, by omega, by omega, rfl, bw⟩ | exact ⟨by omega, by omega⟩ | ((repeat apply Exists.intro); exact ⟨⟨m + 1, by omega, by omega, rfl, bw⟩, rfl⟩)
                  case measure => simp [intOf]; omega
                · rw [firstV_in (N := m) hs hs' (by unfold clampM; rw [if_neg (by omega), if_neg (by omega)]) (by omega)] at F
                  have F := Lib.hid F
                  go_wp2_with fail
                  refine (F.out _).mono ?_
                  rintro e w3 ⟨rfl, rfl⟩
                  go_wp2_with fail
                  refine (R.out _).mono ?_
                  rintro e w3 ⟨rfl, rfl⟩
                  go_wp2_with fail
                  go_roundw
                  case rel => first | exact ⟨m + 1, by omega, by omega, rfl, bw⟩ | exact ⟨by omega, by omega⟩ | ((repeat apply Exists.intro); exact ⟨⟨m + 1, by omega, by omega, rfl, bw⟩, rfl⟩)
                  case measure => simp [intOf]; omega
                · rw [firstV_in (N := 8) hs hs' (by unfold clampM; rw [if_neg (by omega), if_pos h1]) (by omega)] at F
                  have F := Lib.hid F
                  go_wp2_with fail
                  refine (F.out _).mono ?_
                  rintro e w3 ⟨rfl, rfl⟩
                  go_wp2_with fail
                  refine (R.out _).mono ?_
                  rintro e w3 ⟨rfl, rfl⟩
                  go_wp2_with fail
                  go_roundw
                  case rel => first | exact ⟨m + 1, by omega, by omega, rfl, bw⟩ | exact ⟨by omega, by omega⟩ | ((repeat apply Exists.intro); exact ⟨⟨m + 1, by omega, by omega, rfl, bw⟩, rfl⟩)
                  case measure => simp [intOf]; omega
              · rw [first_out (by omega)] at F
                rw [show inS q = false by unfold inS; simp; omega] at R
                have F := Lib.hid F
                have R := Lib.hid R
                go_wp2_with fail
                refine (F.out _).mono ?_
                rintro e w3 ⟨rfl, rfl⟩
                go_wp2_with fail
                refine (R.out _).mono ?_
                rintro e w3 ⟨rfl, rfl⟩
                go_wp2_with fail
                go_roundw
                case rel => first | exact ⟨m + 1, by omega, by omega, rfl, bw⟩ | exact ⟨by omega, by omega⟩ | ((repeat apply Exists.intro); exact ⟨⟨m + 1, by omega, by omega, rfl, bw⟩, rfl⟩)
                case measure => simp [intOf]; omega
            · obtain rfl : m = 11 := by omega
              go_wp2_with fail
              go_roundw
              case rel => first | exact ⟨q + 1, by omega, by omega, rfl, bw⟩ | exact ⟨by omega, by omega⟩ | ((repeat apply Exists.intro); exact ⟨⟨q + 1, by omega, by omega, rfl, bw⟩, rfl⟩)
              case measure => simp [intOf]; omega
        · obtain rfl : q = 19 := by omega
          have P3 := Lib.hid (fun W => known13_any W)
          have hz := bw.size
          go_wp2_with fail
          refine (P3.out _).mono ?_
          rintro e w3 ⟨rfl, b3⟩
          go_wp2_with fail
          go_ret
          exact ⟨rfl, bw.trans (b3.mono hz)⟩
end Go.Proofs.Ytlebanghcbkejaa
