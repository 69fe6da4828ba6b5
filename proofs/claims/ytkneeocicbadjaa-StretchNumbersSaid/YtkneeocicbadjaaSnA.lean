/- walks: StretchNumbers -/
import Derived.Test.YtkneeocicbadjaaS3A
namespace Go.Proofs.Ytkneeocicbadjaa
open Go.RowKit
def sn1 : Array Value := #[.int .i64 (-5), .int .i64 0, .int .i64 1, .int .i64 2, .int .i64 16, .int .i64 1023, .int .i64 1024, .int .i64 1025, .int .i64 1099511627776]
def sn2 : Array Value := #[.string ⟨#[]⟩, .string ⟨#[49, 50, 51]⟩, .string ⟨#[49, 50, 51, 52]⟩, .string ⟨#[49, 50, 51, 52, 53, 54, 55, 56, 57, 48, 49, 50]⟩, .string ⟨#[49, 50, 51, 52, 53, 54, 55, 56, 57, 48, 49, 50, 51]⟩, .string ⟨#[49, 50, 45, 51, 52]⟩, .string ⟨#[97, 98, 99, 100]⟩, .string ⟨#[239, 188, 145, 239, 188, 146, 239, 188, 147, 239, 188, 148]⟩]
theorem sn1_at (j : Nat) (h : j < 9) : ∃ c : Int, sn1[j]? = some (.int .i64 c) := by
  have h' : j = 0 ∨ j = 1 ∨ j = 2 ∨ j = 3 ∨ j = 4 ∨ j = 5 ∨ j = 6 ∨ j = 7 ∨ j = 8 := by omega
  rcases h' with rfl | rfl | rfl | rfl | rfl | rfl | rfl | rfl | rfl <;> exact ⟨_, rfl⟩
theorem sn2_at (j : Nat) (h : j < 8) : ∃ z : ByteArray, sn2[j]? = some (.string z) ∧ z.size ≤ 140737488351232 := by
  have h' : j = 0 ∨ j = 1 ∨ j = 2 ∨ j = 3 ∨ j = 4 ∨ j = 5 ∨ j = 6 ∨ j = 7 := by omega
  rcases h' with rfl | rfl | rfl | rfl | rfl | rfl | rfl | rfl <;> exact ⟨_, rfl, by decide⟩
set_option maxHeartbeats 4000000 in
set_option maxRecDepth 100000 in
theorem snumbers_any (w : World) :
    Calls Try.prog 8 #[] w fun e w' => e = .returned (.bool true) ∧ Below w.heap.size w w' := by
  obtain ⟨ONE, hone⟩ : ∃ l : List UInt8, l = [1, 0, 0, 0, 0, 0, 0, 0, 0, 0, 0, 0, 0, 0, 0, 0] := ⟨_, rfl⟩
  have DG := Lib.hid (fun c W => digits_any ⟨#[49, 50, 51, 52]⟩ (by decide) [1, 0, 0, 0, 0, 0, 0, 0, 0, 0, 0, 0, 0, 0, 0, 0] rfl c W)
  have DR := Lib.hid (fun c W => rdigits_any ⟨#[49, 50, 51, 52]⟩ (by decide) [1, 0, 0, 0, 0, 0, 0, 0, 0, 0, 0, 0, 0, 0, 0, 0] rfl c W)
  clear hone ONE
  go_enter Try.func8, Try.ntmps8
  go_wp2_with fail
  have B1 := Lib.hid (Bk.new (w := w) rfl 3 sn1)
  have bw : Below w.heap.size w (w.alloc (.cells sn1 3)) := (Below.refl _ _).alloc (Nat.le_refl _) _
  have bz : w.heap.size + 1 ≤ (w.alloc (.cells sn1 3)).heap.size := by simp
  change Code.wp Try.prog _ _ _ (w.alloc (.cells sn1 3))
  generalize w.alloc (.cells sn1 3) = w1 at B1 bw bz ⊢
  go_loopw [7] (fun i wr => ∃ j : Nat, j ≤ 9 ∧ i = .int .i64 j ∧ Hid (Bk wr w.heap.size 3 sn1) ∧ Below w.heap.size w wr) (fun i _ => 9 - (intOf i).toNat)
  case atStart => exact ⟨0, by omega, rfl, B1, bw⟩
  case round =>
    clear B1 bw bz
    obtain ⟨j, hj, rfl, hB, bwr⟩ := hrel
    by_cases hlt : j < 9
    · obtain ⟨c, hc⟩ := sn1_at j hlt
      have hcell : wr.cell? ⟨w.heap.size, j, none⟩ = some (.int .i64 c) := by rw [hB.out.cell]; exact hc
      obtain ⟨X, hX⟩ : ∃ X, X = digsL (⟨#[49, 50, 51, 52]⟩ : ByteArray).data.toList [1, 0, 0, 0, 0, 0, 0, 0, 0, 0, 0, 0, 0, 0, 0, 0] (min (max c 0) 1024).toNat := ⟨_, rfl⟩
      have HX := Lib.hid (show X.length = 16 by rw [hX]; exact digsL_len _ _ _)
      have D1 := Lib.hid (DG.out c)
      have D2 := Lib.hid (DR.out c)
      rw [← hX] at D1 D2
      rw [digV_lit] at D1 D2
      clear hc hX
      go_wp2_with fail
      refine (D1.out _).mono ?_
      rintro e w3 ⟨rfl, x3⟩
      have hB3 := Lib.hid (hB.out.ext x3)
      have bw3 : Below w.heap.size w w3 := bwr.trans (x3.mono bwr.size)
      clear hcell hB bwr x3 D1
      go_wp2_with fail
      refine (D2.out _).mono ?_
      rintro e w4 ⟨rfl, x4⟩
      have hB4 := Lib.hid (hB3.out.ext x4)
      have bw4 : Below w.heap.size w w4 := bw3.trans (x4.mono bw3.size)
      clear hB3 bw3 x4 D2
      go_wp2_with ((with_reducible refine at_any ?_ ?_); (focus go_simp); (refine fun K hK => wp_neqd _ _ _ X X false rfl HX.out HX.out rfl rfl (by simp) (hK _ _ ?_)))
      go_roundw
      case rel => exact ⟨j + 1, by omega, by go_num, hB4, bw4⟩
      case measure => simp [intOf]; omega
    · have hj9 : ¬ j < 9 := hlt
      have bz := bwr.size
      go_wp2_with fail
      have B2 := Lib.hid (Bk.new (w := wr) rfl 9 sn2)
      have x2 : Ex wr (wr.alloc (.cells sn2 9)) := (Below.refl _ _).alloc (Nat.le_refl _) _
      have bw2 : Below w.heap.size w (wr.alloc (.cells sn2 9)) := bwr.trans (x2.mono bz)
      have bz2 := bw2.size
      change Code.wp Try.prog _ _ _ (wr.alloc (.cells sn2 9))
      obtain ⟨g, hg⟩ : ∃ g, g = wr.heap.size := ⟨_, rfl⟩
      rw [← hg] at B2 ⊢
      have hgz : w.heap.size ≤ g := by omega
      generalize wr.alloc (.cells sn2 9) = w1 at B2 bw2 bz2 ⊢
      clear x2 hB bwr bz hg hlt hj hj9 DG DR
      generalize (Value.int .i64 (j : Int)) = jv
      have S0 : Hid (∀ z : ByteArray, z.size ≤ 140737488351232 → ∀ W : World, Calls Try.prog 38 #[.string z, .agg #[.int .u8 0, .int .u8 0, .int .u8 0, .int .u8 0]] W fun e w' => e = .returned (.bool true) ∧ Ex W w') := Lib.hid (fun z hz W => by
        have h := same3_any z hz [0, 0, 0, 0] rfl W
        exact h)
      have S1 : Hid (∀ z : ByteArray, z.size ≤ 140737488351232 → ∀ W : World, Calls Try.prog 38 #[.string z, .agg #[.int .u8 1, .int .u8 2, .int .u8 3, .int .u8 4]] W fun e w' => e = .returned (.bool true) ∧ Ex W w') := Lib.hid (fun z hz W => by
        have h := same3_any z hz [1, 2, 3, 4] rfl W
        exact h)
      go_loopw [21] (fun i wr => ∃ j : Nat, j ≤ 8 ∧ i = .int .i64 j ∧ Hid (Bk wr g 9 sn2) ∧ Below w.heap.size w wr) (fun i _ => 8 - (intOf i).toNat)
      case atStart => exact ⟨0, by omega, rfl, B2, bw2⟩
      case round =>
        clear B2 bw2 bz2
        obtain ⟨j, hj, rfl, hB, bwr⟩ := hrel
        by_cases hlt : j < 8
        · obtain ⟨z, hz, hzl⟩ := sn2_at j hlt
          have hcell : wr.cell? ⟨g, j, none⟩ = some (.string z) := by rw [hB.out.cell]; exact hz
          have C0 := Lib.hid (S0.out z hzl)
          have C1 := Lib.hid (S1.out z hzl)
          clear hz hzl
          go_wp2_with fail
          refine (C0.out _).mono ?_
          rintro e w3 ⟨rfl, x3⟩
          have hB3 := Lib.hid (hB.out.ext x3)
          have bw3 : Below w.heap.size w w3 := bwr.trans (x3.mono bwr.size)
          clear hcell hB bwr x3 C0
          go_wp2_with fail
          refine (C1.out _).mono ?_
          rintro e w4 ⟨rfl, x4⟩
          have hB4 := Lib.hid (hB3.out.ext x4)
          have bw4 : Below w.heap.size w w4 := bw3.trans (x4.mono bw3.size)
          clear hB3 bw3 x4 C1
          go_wp2_with fail
          go_roundw
          case rel => exact ⟨j + 1, by omega, by go_num, hB4, bw4⟩
          case measure => simp [intOf]; omega
        · obtain rfl : j = 8 := by omega
          have KN := Lib.hid (known3_any wr)
          go_wp2_with fail
          refine KN.out.mono ?_
          rintro e w3 ⟨rfl, x3⟩
          have b3 : Below w.heap.size w w3 := bwr.trans (x3.mono bwr.size)
          clear x3 KN
          go_wp2_with fail
          go_ret
          exact ⟨rfl, b3⟩
theorem stretchNumbers_law (w : World) :
    Calls Try.prog 8 #[] w fun e w' => e = .returned (.bool true) ∧ Below w.heap.size w w' := snumbers_any w
end Go.Proofs.Ytkneeocicbadjaa
