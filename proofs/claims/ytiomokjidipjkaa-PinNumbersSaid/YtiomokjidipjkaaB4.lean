/- the law PinNumbers, walked -/
import Derived.Test.YtiomokjidipjkaaB3
namespace Go.Proofs.Ytiomokjidipjkaa
open Go.RowKit
theorem enc_size (x : Int) : (Utf8.encode x).size ≤ 4 := encode_size_le x
/-- the nine signs of the law -/
def ninth : List Int := [48, 65296, 1632, 1776, 32, 45, 160, 2406, 178]
def nineV (i : Nat) : Value := .int .i32 (ninth.getD i 0)
/-- the fifteen texts of the law -/
def fifteen : List ByteArray := [⟨#[]⟩, ⟨#[255]⟩, ⟨#[49, 50, 255, 51, 52]⟩, ⟨#[49, 50, 51, 52, 224, 160]⟩, ⟨#[226, 128, 162, 226, 128, 162]⟩, ⟨#[48, 49, 50, 51]⟩, ⟨#[57, 56, 55, 54]⟩, ⟨#[56, 57, 48, 49]⟩, ⟨#[49, 49, 49, 49]⟩,
  ⟨#[48, 49, 50, 51, 52, 53, 54, 55, 56, 57, 48, 49]⟩, ⟨#[48, 49, 50, 51, 52, 53, 54, 55, 56, 57]⟩, ⟨#[57, 56, 55, 54, 53, 52, 51, 50, 49, 48]⟩, ⟨#[48, 48, 48, 48, 48, 48, 48, 48, 48, 48, 48, 48, 48]⟩, ⟨#[49, 50, 97, 52]⟩, ⟨#[49, 50, 51, 52, 10]⟩]
theorem fifteen_size : ∀ s ∈ fifteen, s.size ≤ 13 := by decide
theorem ninth_bd : ∀ x ∈ ninth, 32 ≤ x ∧ x ≤ 65296 := by decide

theorem sz1 (x : Int) : ((⟨#[49, 50, 51]⟩ : ByteArray) ++ Utf8.encode x).size ≤ 35184372088832 := by
  have := encode_size_le x
  have e : (⟨#[49, 50, 51]⟩ : ByteArray).size = 3 := rfl
  rw [ByteArray.size_append, e]; omega
theorem sz2 (x : Int) : (Utf8.encode x ++ (⟨#[52, 53, 54, 55, 56]⟩ : ByteArray)).size ≤ 35184372088832 := by
  have := encode_size_le x
  have e : (⟨#[52, 53, 54, 55, 56]⟩ : ByteArray).size = 5 := rfl
  rw [ByteArray.size_append, e]; omega
theorem sz3 (s : ByteArray) (h : s.size ≤ 13) (i j : Nat) : (s.extract i j).size ≤ 13 := by simp; omega
theorem sz4 (s : ByteArray) (h : s.size ≤ 13) (i j : Nat) : (s.extract i j ++ s).size ≤ 35184372088832 := by
  have := sz3 s h i j
  rw [ByteArray.size_append]; omega
def nineA : Array Value := #[.int .i32 48, .int .i32 65296, .int .i32 1632, .int .i32 1776, .int .i32 32, .int .i32 45, .int .i32 160, .int .i32 2406, .int .i32 178]
theorem nine_at (k : Nat) (h : k < 9) : ∃ x : Int, nineA[k]? = some (.int .i32 x) ∧ 32 ≤ x ∧ x ≤ 65296 := by
  have : k = 0 ∨ k = 1 ∨ k = 2 ∨ k = 3 ∨ k = 4 ∨ k = 5 ∨ k = 6 ∨ k = 7 ∨ k = 8 := by omega
  rcases this with rfl | rfl | rfl | rfl | rfl | rfl | rfl | rfl | rfl <;> exact ⟨_, rfl, by omega, by omega⟩
def fifteenA : Array Value := #[.string ⟨#[]⟩, .string ⟨#[255]⟩, .string ⟨#[49, 50, 255, 51, 52]⟩, .string ⟨#[49, 50, 51, 52, 224, 160]⟩, .string ⟨#[226, 128, 162, 226, 128, 162]⟩, .string ⟨#[48, 49, 50, 51]⟩, .string ⟨#[57, 56, 55, 54]⟩, .string ⟨#[56, 57, 48, 49]⟩, .string ⟨#[49, 49, 49, 49]⟩, .string ⟨#[48, 49, 50, 51, 52, 53, 54, 55, 56, 57, 48, 49]⟩, .string ⟨#[48, 49, 50, 51, 52, 53, 54, 55, 56, 57]⟩, .string ⟨#[57, 56, 55, 54, 53, 52, 51, 50, 49, 48]⟩, .string ⟨#[48, 48, 48, 48, 48, 48, 48, 48, 48, 48, 48, 48, 48]⟩, .string ⟨#[49, 50, 97, 52]⟩, .string ⟨#[49, 50, 51, 52, 10]⟩]
theorem fifteen_at (k : Nat) (h : k < 15) : ∃ s : ByteArray, fifteenA[k]? = some (.string s) ∧ s.size ≤ 13 := by
  have : k = 0 ∨ k = 1 ∨ k = 2 ∨ k = 3 ∨ k = 4 ∨ k = 5 ∨ k = 6 ∨ k = 7 ∨ k = 8 ∨ k = 9 ∨ k = 10 ∨ k = 11 ∨ k = 12 ∨ k = 13 ∨ k = 14 := by omega
  rcases this with rfl | rfl | rfl | rfl | rfl | rfl | rfl | rfl | rfl | rfl | rfl | rfl | rfl | rfl | rfl <;> exact ⟨_, rfl, by decide⟩
set_option maxHeartbeats 4000000 in
set_option maxRecDepth 100000 in
theorem numbers_walk (w : World) : Calls Try.prog 3 #[] w fun e w' => e = .returned (.bool true) ∧ Below w.heap.size w w' := by
  obtain ⟨B, hB⟩ : ∃ B, B = w.heap.size := ⟨_, rfl⟩
  have hA : ∀ k, (w.alloc (.cells nineA 21)).cell? ⟨B, k, none⟩ = nineA[k]? := by
    intro k; rw [hB]; exact World.cell?_alloc_mark w nineA 21 (0, 0) k
  have hbA : Below w.heap.size w (w.alloc (.cells nineA 21)) := (Below.refl _ _).alloc (Nat.le_refl _) _
  have hsA : (w.alloc (.cells nineA 21)).heap.size = B + 1 := by rw [hB]; simp
  have HA := Lib.hid (And.intro hA (And.intro hbA hsA))
  clear hA hbA hsA
  go_enter Try.func3, Try.ntmps3
  go_wp2
  obtain ⟨wA, hwA⟩ : ∃ wA, wA = w.alloc (.cells nineA 21) := ⟨_, rfl⟩
  rw [← hwA] at HA
  have hw0 : w.alloc (.cells nineA 21) = w.alloc (.cells #[.int .i32 48, .int .i32 65296, .int .i32 1632, .int .i32 1776, .int .i32 32, .int .i32 45, .int .i32 160, .int .i32 2406, .int .i32 178] 21) := rfl
  rw [← hw0, ← hwA, ← hB]
  have HB := Lib.hid hB
  clear hB hw0
  clear hwA
  have hst : Below (B + 1) wA wA := Below.refl _ _
  go_loopw [9] (fun i wr => ∃ k : Nat, k ≤ 9 ∧ i = .int .i64 k ∧ Below (B + 1) wA wr) (fun i _ => 9 - (intOf i).toNat)
  case atStart => exact ⟨0, Nat.zero_le _, rfl, hst⟩
  case round =>
    obtain ⟨k, hk, rfl, hbl⟩ := hrel
    by_cases hlt : k < 9
    · obtain ⟨x, hx, hx0, hx1⟩ := nine_at k hlt
      have hc : wr.cell? ⟨B, k, none⟩ = some (.int .i32 x) := by rw [hbl.cell (p := ⟨B, k, none⟩) (by show B < B + 1; omega), HA.out.1 k]; exact hx
      clear hx
      obtain ⟨wo, hwo⟩ : ∃ wo, wo = wr := ⟨_, rfl⟩
      rw [← hwo]
      rw [← hwo] at hbl hc
      clear hwo
      have q1 : (k : Int) < 9 := by omega
      have q2 : (0 : Int) ≤ (k : Int) := by omega
      go_wp2
      go_loopw [3] (fun i wr => ∃ d : Int, -2 ≤ d ∧ d ≤ 13 ∧ i = .int .i32 d ∧ Below wo.heap.size wo wr) (fun i _ => (13 - intOf i).toNat)
      case atStart => exact ⟨-2, by omega, by omega, rfl, Below.refl _ _⟩
      case round =>
        obtain ⟨d, hd0, hd1, rfl, hb2⟩ := hrel
        by_cases hd : d < 13
        · have f1 := encode_size_le (x + d)
          have f2 : (⟨#[49, 50, 51]⟩ : ByteArray).size ≤ 3 := Nat.le_refl _
          have f3 : (⟨#[52, 53, 54, 55, 56]⟩ : ByteArray).size ≤ 5 := Nat.le_refl _
          go_wp2_with fail
          refine (same_any _ (sz1 _) _).mono ?_
          rintro e w1 ⟨rfl, b1⟩
          go_wp2_with fail
          refine (same_any _ (sz2 _) _).mono ?_
          rintro e w2 ⟨rfl, b2⟩
          go_wp2
          go_roundw
          case rel => exact ⟨d + 1, by omega, by omega, by go_num, hb2.trans ((bump b1 b2).mono hb2.size)⟩
          case measure => simp [intOf]; omega
        · go_wp2
          go_roundw
          case rel => exact ⟨k + 1, by omega, by go_num, hbl.trans (hb2.mono (by have := hbl.size; have := HA.out.2.2; omega))⟩
          case measure => simp [intOf]; omega
    · go_wp2
      have hbw : Below w.heap.size w wr := HA.out.2.1.trans (hbl.mono (by have := HB.out; omega))
      obtain ⟨C, hC⟩ : ∃ C, C = wr.heap.size := ⟨_, rfl⟩
      have hA2 : ∀ j, (wr.alloc (.cells fifteenA 9)).cell? ⟨C, j, none⟩ = fifteenA[j]? := by
        intro j; rw [hC]; exact World.cell?_alloc_mark wr fifteenA 9 (0, 0) j
      have hb2 : Below wr.heap.size wr (wr.alloc (.cells fifteenA 9)) := (Below.refl _ _).alloc (Nat.le_refl _) _
      have hs2 : (wr.alloc (.cells fifteenA 9)).heap.size = C + 1 := by rw [hC]; simp
      obtain ⟨wB, hwB⟩ : ∃ wB, wB = wr.alloc (.cells fifteenA 9) := ⟨_, rfl⟩
      have HX : Hid ((∀ j, wB.cell? ⟨C, j, none⟩ = fifteenA[j]?) ∧ Below w.heap.size w wB ∧ wB.heap.size = C + 1) := Lib.hid (by
        rw [hwB]; exact ⟨hA2, bump hbw hb2, hs2⟩)
      clear hA2 hb2 hs2 hbw
      have hwB2 : wB = wr.alloc (.cells #[.string ⟨#[]⟩, .string ⟨#[255]⟩, .string ⟨#[49, 50, 255, 51, 52]⟩, .string ⟨#[49, 50, 51, 52, 224, 160]⟩, .string ⟨#[226, 128, 162, 226, 128, 162]⟩, .string ⟨#[48, 49, 50, 51]⟩, .string ⟨#[57, 56, 55, 54]⟩, .string ⟨#[56, 57, 48, 49]⟩, .string ⟨#[49, 49, 49, 49]⟩, .string ⟨#[48, 49, 50, 51, 52, 53, 54, 55, 56, 57, 48, 49]⟩, .string ⟨#[48, 49, 50, 51, 52, 53, 54, 55, 56, 57]⟩, .string ⟨#[57, 56, 55, 54, 53, 52, 51, 50, 49, 48]⟩, .string ⟨#[48, 48, 48, 48, 48, 48, 48, 48, 48, 48, 48, 48, 48]⟩, .string ⟨#[49, 50, 97, 52]⟩, .string ⟨#[49, 50, 51, 52, 10]⟩] 9) := hwB
      rw [← hwB2, ← hC]
      clear hwB hwB2 hC hbl hst
      have hst : Below (C + 1) wB wB := Below.refl _ _
      go_loopw [36] (fun i wr => ∃ k : Nat, k ≤ 15 ∧ i = .int .i64 k ∧ Below (C + 1) wB wr) (fun i _ => 15 - (intOf i).toNat)
      case atStart => exact ⟨0, Nat.zero_le _, rfl, hst⟩
      case round =>
        obtain ⟨m, hm, rfl, hbl⟩ := hrel
        by_cases hlt2 : m < 15
        · obtain ⟨s, hs, hs13⟩ := fifteen_at m hlt2
          have hc : wr.cell? ⟨C, m, none⟩ = some (.string s) := by rw [hbl.cell (p := ⟨C, m, none⟩) (by show C < C + 1; omega), HX.out.1 m]; exact hs
          clear hs
          have q1 : (m : Int) < 15 := by omega
          have q2 : (0 : Int) ≤ (m : Int) := by omega
          obtain ⟨wo, hwo⟩ : ∃ wo, wo = wr := ⟨_, rfl⟩
          rw [← hwo]
          rw [← hwo] at hbl hc
          clear hwo
          go_wp2
          go_loopw [6] (fun i wr => ∃ d : Nat, d ≤ s.size + 1 ∧ i = .int .i64 d ∧ Below wo.heap.size wo wr) (fun i _ => s.size + 1 - (intOf i).toNat)
          case atStart => exact ⟨0, by omega, rfl, Below.refl _ _⟩
          case round =>
            obtain ⟨d, hd0, rfl, hb2⟩ := hrel
            by_cases hd : d ≤ s.size
            · have f1 := sz3 s hs13 0 d
              have f2 := sz3 s hs13 d s.size
              have f3 := sz4 s hs13 d s.size
              have p1 : (d : Int) ≤ (s.size : Int) := by omega
              have p2 : (0 : Int) ≤ (d : Int) := by omega
              go_wp2_with fail
              refine (same_any _ (by omega) _).mono ?_
              rintro e w1 ⟨rfl, b1⟩
              go_wp2_with fail
              refine (same_any _ (by omega) _).mono ?_
              rintro e w2 ⟨rfl, b2⟩
              go_wp2
              go_roundw
              case rel => exact ⟨d + 1, by omega, by go_num, hb2.trans ((bump b1 b2).mono hb2.size)⟩
              case measure => simp [intOf]; omega
            · have p1 : ¬ (d : Int) ≤ (s.size : Int) := by omega
              go_wp2
              go_roundw
              case rel => exact ⟨m + 1, by omega, by go_num, hbl.trans (hb2.mono (by have := hbl.size; have := HX.out.2.2; omega))⟩
              case measure => simp [intOf]; omega
        · go_wp2_with fail
          refine (known_any _).mono ?_
          rintro e w1 ⟨rfl, b1⟩
          go_wp2
          go_ret
          exact ⟨rfl, bump HX.out.2.1 ((hbl.mono (by have := HX.out.2.2; omega)).trans (b1.mono (by have := hbl.size; omega)))⟩
end Go.Proofs.Ytiomokjidipjkaa
