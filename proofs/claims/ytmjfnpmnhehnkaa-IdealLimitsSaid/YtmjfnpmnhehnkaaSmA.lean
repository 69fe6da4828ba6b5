/- The words of the sum: pure. -/
import Derived.WalkKit
import Derived.Laws.BitsAllLaws
import Derived.Lib.Hide
namespace Go.Proofs.Ytmjfnpmnhehnkaa.Sm
open Go.RowKit
/-- one word turned left by one -/
def rot1 (x : Int) : Int := x * 2 % 4294967296 + x / 2147483648
def rotN : Nat → Int → Int
  | 0, x => x
  | k + 1, x => rot1 (rotN k x)
def isW (x : Int) : Prop := 0 ≤ x ∧ x < 4294967296
theorem rot1_w {x : Int} (h : isW x) : isW (rot1 x) := by unfold isW rot1 at *; omega
theorem rotN_w {x : Int} (h : isW x) : ∀ k, isW (rotN k x)
  | 0 => h
  | k + 1 => rot1_w (rotN_w h k)
theorem rot_0 {x : Int} (h : isW x) : rotN 0 x = x * 1 % 4294967296 + x / 4294967296 := by
  have e : rotN 0 x = x := rfl
  rw [e]; unfold isW at h; omega
theorem rot_1 {x : Int} (h : isW x) : rotN 1 x = x * 2 % 4294967296 + x / 2147483648 := by
  have e : rotN 1 x = rot1 (rotN 0 x) := rfl
  rw [e, rot_0 h]; unfold rot1; unfold isW at h
  obtain ⟨q, r, s, hx, h1, h2, h3, h4, h5⟩ : ∃ q r s : Int, x = 4294967296 * q + 2147483648 * r + s ∧ 0 ≤ r ∧ r ≤ 1 ∧ 0 ≤ s ∧ s < 2147483648 ∧ 0 ≤ q :=
    ⟨x / 4294967296, x % 4294967296 / 2147483648, x % 2147483648, by omega, by omega, by omega, by omega, by omega, by omega⟩
  have q6 : q < 1 := by omega
  have e1 : x * 1 % 4294967296 = 2147483648 * r + 1 * s := by omega
  have e2 : x / 4294967296 = q := by omega
  have e3 : x * 2 % 4294967296 = 2 * s := by omega
  have e4 : x / 2147483648 = 2 * q + r := by omega
  rw [e1, e2, e3, e4]
  clear e1 e2 e3 e4 hx e
  rcases (show r = 0 ∨ r = 1 by omega) with rfl | rfl <;> omega
theorem rot_2 {x : Int} (h : isW x) : rotN 2 x = x * 4 % 4294967296 + x / 1073741824 := by
  have e : rotN 2 x = rot1 (rotN 1 x) := rfl
  rw [e, rot_1 h]; unfold rot1; unfold isW at h
  obtain ⟨q, r, s, hx, h1, h2, h3, h4, h5⟩ : ∃ q r s : Int, x = 2147483648 * q + 1073741824 * r + s ∧ 0 ≤ r ∧ r ≤ 1 ∧ 0 ≤ s ∧ s < 1073741824 ∧ 0 ≤ q :=
    ⟨x / 2147483648, x % 2147483648 / 1073741824, x % 1073741824, by omega, by omega, by omega, by omega, by omega, by omega⟩
  have q6 : q < 2 := by omega
  have e1 : x * 2 % 4294967296 = 2147483648 * r + 2 * s := by omega
  have e2 : x / 2147483648 = q := by omega
  have e3 : x * 4 % 4294967296 = 4 * s := by omega
  have e4 : x / 1073741824 = 2 * q + r := by omega
  rw [e1, e2, e3, e4]
  clear e1 e2 e3 e4 hx e
  rcases (show r = 0 ∨ r = 1 by omega) with rfl | rfl <;> omega
theorem rot_3 {x : Int} (h : isW x) : rotN 3 x = x * 8 % 4294967296 + x / 536870912 := by
  have e : rotN 3 x = rot1 (rotN 2 x) := rfl
  rw [e, rot_2 h]; unfold rot1; unfold isW at h
  obtain ⟨q, r, s, hx, h1, h2, h3, h4, h5⟩ : ∃ q r s : Int, x = 1073741824 * q + 536870912 * r + s ∧ 0 ≤ r ∧ r ≤ 1 ∧ 0 ≤ s ∧ s < 536870912 ∧ 0 ≤ q :=
    ⟨x / 1073741824, x % 1073741824 / 536870912, x % 536870912, by omega, by omega, by omega, by omega, by omega, by omega⟩
  have q6 : q < 4 := by omega
  have e1 : x * 4 % 4294967296 = 2147483648 * r + 4 * s := by omega
  have e2 : x / 1073741824 = q := by omega
  have e3 : x * 8 % 4294967296 = 8 * s := by omega
  have e4 : x / 536870912 = 2 * q + r := by omega
  rw [e1, e2, e3, e4]
  clear e1 e2 e3 e4 hx e
  rcases (show r = 0 ∨ r = 1 by omega) with rfl | rfl <;> omega
theorem rot_4 {x : Int} (h : isW x) : rotN 4 x = x * 16 % 4294967296 + x / 268435456 := by
  have e : rotN 4 x = rot1 (rotN 3 x) := rfl
  rw [e, rot_3 h]; unfold rot1; unfold isW at h
  obtain ⟨q, r, s, hx, h1, h2, h3, h4, h5⟩ : ∃ q r s : Int, x = 536870912 * q + 268435456 * r + s ∧ 0 ≤ r ∧ r ≤ 1 ∧ 0 ≤ s ∧ s < 268435456 ∧ 0 ≤ q :=
    ⟨x / 536870912, x % 536870912 / 268435456, x % 268435456, by omega, by omega, by omega, by omega, by omega, by omega⟩
  have q6 : q < 8 := by omega
  have e1 : x * 8 % 4294967296 = 2147483648 * r + 8 * s := by omega
  have e2 : x / 536870912 = q := by omega
  have e3 : x * 16 % 4294967296 = 16 * s := by omega
  have e4 : x / 268435456 = 2 * q + r := by omega
  rw [e1, e2, e3, e4]
  clear e1 e2 e3 e4 hx e
  rcases (show r = 0 ∨ r = 1 by omega) with rfl | rfl <;> omega
theorem rot_5 {x : Int} (h : isW x) : rotN 5 x = x * 32 % 4294967296 + x / 134217728 := by
  have e : rotN 5 x = rot1 (rotN 4 x) := rfl
  rw [e, rot_4 h]; unfold rot1; unfold isW at h
  obtain ⟨q, r, s, hx, h1, h2, h3, h4, h5⟩ : ∃ q r s : Int, x = 268435456 * q + 134217728 * r + s ∧ 0 ≤ r ∧ r ≤ 1 ∧ 0 ≤ s ∧ s < 134217728 ∧ 0 ≤ q :=
    ⟨x / 268435456, x % 268435456 / 134217728, x % 134217728, by omega, by omega, by omega, by omega, by omega, by omega⟩
  have q6 : q < 16 := by omega
  have e1 : x * 16 % 4294967296 = 2147483648 * r + 16 * s := by omega
  have e2 : x / 268435456 = q := by omega
  have e3 : x * 32 % 4294967296 = 32 * s := by omega
  have e4 : x / 134217728 = 2 * q + r := by omega
  rw [e1, e2, e3, e4]
  clear e1 e2 e3 e4 hx e
  rcases (show r = 0 ∨ r = 1 by omega) with rfl | rfl <;> omega
theorem rot_6 {x : Int} (h : isW x) : rotN 6 x = x * 64 % 4294967296 + x / 67108864 := by
  have e : rotN 6 x = rot1 (rotN 5 x) := rfl
  rw [e, rot_5 h]; unfold rot1; unfold isW at h
  obtain ⟨q, r, s, hx, h1, h2, h3, h4, h5⟩ : ∃ q r s : Int, x = 134217728 * q + 67108864 * r + s ∧ 0 ≤ r ∧ r ≤ 1 ∧ 0 ≤ s ∧ s < 67108864 ∧ 0 ≤ q :=
    ⟨x / 134217728, x % 134217728 / 67108864, x % 67108864, by omega, by omega, by omega, by omega, by omega, by omega⟩
  have q6 : q < 32 := by omega
  have e1 : x * 32 % 4294967296 = 2147483648 * r + 32 * s := by omega
  have e2 : x / 134217728 = q := by omega
  have e3 : x * 64 % 4294967296 = 64 * s := by omega
  have e4 : x / 67108864 = 2 * q + r := by omega
  rw [e1, e2, e3, e4]
  clear e1 e2 e3 e4 hx e
  rcases (show r = 0 ∨ r = 1 by omega) with rfl | rfl <;> omega
theorem rot_7 {x : Int} (h : isW x) : rotN 7 x = x * 128 % 4294967296 + x / 33554432 := by
  have e : rotN 7 x = rot1 (rotN 6 x) := rfl
  rw [e, rot_6 h]; unfold rot1; unfold isW at h
  obtain ⟨q, r, s, hx, h1, h2, h3, h4, h5⟩ : ∃ q r s : Int, x = 67108864 * q + 33554432 * r + s ∧ 0 ≤ r ∧ r ≤ 1 ∧ 0 ≤ s ∧ s < 33554432 ∧ 0 ≤ q :=
    ⟨x / 67108864, x % 67108864 / 33554432, x % 33554432, by omega, by omega, by omega, by omega, by omega, by omega⟩
  have q6 : q < 64 := by omega
  have e1 : x * 64 % 4294967296 = 2147483648 * r + 64 * s := by omega
  have e2 : x / 67108864 = q := by omega
  have e3 : x * 128 % 4294967296 = 128 * s := by omega
  have e4 : x / 33554432 = 2 * q + r := by omega
  rw [e1, e2, e3, e4]
  clear e1 e2 e3 e4 hx e
  rcases (show r = 0 ∨ r = 1 by omega) with rfl | rfl <;> omega
theorem rot_8 {x : Int} (h : isW x) : rotN 8 x = x * 256 % 4294967296 + x / 16777216 := by
  have e : rotN 8 x = rot1 (rotN 7 x) := rfl
  rw [e, rot_7 h]; unfold rot1; unfold isW at h
  obtain ⟨q, r, s, hx, h1, h2, h3, h4, h5⟩ : ∃ q r s : Int, x = 33554432 * q + 16777216 * r + s ∧ 0 ≤ r ∧ r ≤ 1 ∧ 0 ≤ s ∧ s < 16777216 ∧ 0 ≤ q :=
    ⟨x / 33554432, x % 33554432 / 16777216, x % 16777216, by omega, by omega, by omega, by omega, by omega, by omega⟩
  have q6 : q < 128 := by omega
  have e1 : x * 128 % 4294967296 = 2147483648 * r + 128 * s := by omega
  have e2 : x / 33554432 = q := by omega
  have e3 : x * 256 % 4294967296 = 256 * s := by omega
  have e4 : x / 16777216 = 2 * q + r := by omega
  rw [e1, e2, e3, e4]
  clear e1 e2 e3 e4 hx e
  rcases (show r = 0 ∨ r = 1 by omega) with rfl | rfl <;> omega
theorem rot_9 {x : Int} (h : isW x) : rotN 9 x = x * 512 % 4294967296 + x / 8388608 := by
  have e : rotN 9 x = rot1 (rotN 8 x) := rfl
  rw [e, rot_8 h]; unfold rot1; unfold isW at h
  obtain ⟨q, r, s, hx, h1, h2, h3, h4, h5⟩ : ∃ q r s : Int, x = 16777216 * q + 8388608 * r + s ∧ 0 ≤ r ∧ r ≤ 1 ∧ 0 ≤ s ∧ s < 8388608 ∧ 0 ≤ q :=
    ⟨x / 16777216, x % 16777216 / 8388608, x % 8388608, by omega, by omega, by omega, by omega, by omega, by omega⟩
  have q6 : q < 256 := by omega
  have e1 : x * 256 % 4294967296 = 2147483648 * r + 256 * s := by omega
  have e2 : x / 16777216 = q := by omega
  have e3 : x * 512 % 4294967296 = 512 * s := by omega
  have e4 : x / 8388608 = 2 * q + r := by omega
  rw [e1, e2, e3, e4]
  clear e1 e2 e3 e4 hx e
  rcases (show r = 0 ∨ r = 1 by omega) with rfl | rfl <;> omega
theorem rot_10 {x : Int} (h : isW x) : rotN 10 x = x * 1024 % 4294967296 + x / 4194304 := by
  have e : rotN 10 x = rot1 (rotN 9 x) := rfl
  rw [e, rot_9 h]; unfold rot1; unfold isW at h
  obtain ⟨q, r, s, hx, h1, h2, h3, h4, h5⟩ : ∃ q r s : Int, x = 8388608 * q + 4194304 * r + s ∧ 0 ≤ r ∧ r ≤ 1 ∧ 0 ≤ s ∧ s < 4194304 ∧ 0 ≤ q :=
    ⟨x / 8388608, x % 8388608 / 4194304, x % 4194304, by omega, by omega, by omega, by omega, by omega, by omega⟩
  have q6 : q < 512 := by omega
  have e1 : x * 512 % 4294967296 = 2147483648 * r + 512 * s := by omega
  have e2 : x / 8388608 = q := by omega
  have e3 : x * 1024 % 4294967296 = 1024 * s := by omega
  have e4 : x / 4194304 = 2 * q + r := by omega
  rw [e1, e2, e3, e4]
  clear e1 e2 e3 e4 hx e
  rcases (show r = 0 ∨ r = 1 by omega) with rfl | rfl <;> omega
theorem rot_11 {x : Int} (h : isW x) : rotN 11 x = x * 2048 % 4294967296 + x / 2097152 := by
  have e : rotN 11 x = rot1 (rotN 10 x) := rfl
  rw [e, rot_10 h]; unfold rot1; unfold isW at h
  obtain ⟨q, r, s, hx, h1, h2, h3, h4, h5⟩ : ∃ q r s : Int, x = 4194304 * q + 2097152 * r + s ∧ 0 ≤ r ∧ r ≤ 1 ∧ 0 ≤ s ∧ s < 2097152 ∧ 0 ≤ q :=
    ⟨x / 4194304, x % 4194304 / 2097152, x % 2097152, by omega, by omega, by omega, by omega, by omega, by omega⟩
  have q6 : q < 1024 := by omega
  have e1 : x * 1024 % 4294967296 = 2147483648 * r + 1024 * s := by omega
  have e2 : x / 4194304 = q := by omega
  have e3 : x * 2048 % 4294967296 = 2048 * s := by omega
  have e4 : x / 2097152 = 2 * q + r := by omega
  rw [e1, e2, e3, e4]
  clear e1 e2 e3 e4 hx e
  rcases (show r = 0 ∨ r = 1 by omega) with rfl | rfl <;> omega
theorem rot_12 {x : Int} (h : isW x) : rotN 12 x = x * 4096 % 4294967296 + x / 1048576 := by
  have e : rotN 12 x = rot1 (rotN 11 x) := rfl
  rw [e, rot_11 h]; unfold rot1; unfold isW at h
  obtain ⟨q, r, s, hx, h1, h2, h3, h4, h5⟩ : ∃ q r s : Int, x = 2097152 * q + 1048576 * r + s ∧ 0 ≤ r ∧ r ≤ 1 ∧ 0 ≤ s ∧ s < 1048576 ∧ 0 ≤ q :=
    ⟨x / 2097152, x % 2097152 / 1048576, x % 1048576, by omega, by omega, by omega, by omega, by omega, by omega⟩
  have q6 : q < 2048 := by omega
  have e1 : x * 2048 % 4294967296 = 2147483648 * r + 2048 * s := by omega
  have e2 : x / 2097152 = q := by omega
  have e3 : x * 4096 % 4294967296 = 4096 * s := by omega
  have e4 : x / 1048576 = 2 * q + r := by omega
  rw [e1, e2, e3, e4]
  clear e1 e2 e3 e4 hx e
  rcases (show r = 0 ∨ r = 1 by omega) with rfl | rfl <;> omega
theorem rot_13 {x : Int} (h : isW x) : rotN 13 x = x * 8192 % 4294967296 + x / 524288 := by
  have e : rotN 13 x = rot1 (rotN 12 x) := rfl
  rw [e, rot_12 h]; unfold rot1; unfold isW at h
  obtain ⟨q, r, s, hx, h1, h2, h3, h4, h5⟩ : ∃ q r s : Int, x = 1048576 * q + 524288 * r + s ∧ 0 ≤ r ∧ r ≤ 1 ∧ 0 ≤ s ∧ s < 524288 ∧ 0 ≤ q :=
    ⟨x / 1048576, x % 1048576 / 524288, x % 524288, by omega, by omega, by omega, by omega, by omega, by omega⟩
  have q6 : q < 4096 := by omega
  have e1 : x * 4096 % 4294967296 = 2147483648 * r + 4096 * s := by omega
  have e2 : x / 1048576 = q := by omega
  have e3 : x * 8192 % 4294967296 = 8192 * s := by omega
  have e4 : x / 524288 = 2 * q + r := by omega
  rw [e1, e2, e3, e4]
  clear e1 e2 e3 e4 hx e
  rcases (show r = 0 ∨ r = 1 by omega) with rfl | rfl <;> omega
theorem rot_14 {x : Int} (h : isW x) : rotN 14 x = x * 16384 % 4294967296 + x / 262144 := by
  have e : rotN 14 x = rot1 (rotN 13 x) := rfl
  rw [e, rot_13 h]; unfold rot1; unfold isW at h
  obtain ⟨q, r, s, hx, h1, h2, h3, h4, h5⟩ : ∃ q r s : Int, x = 524288 * q + 262144 * r + s ∧ 0 ≤ r ∧ r ≤ 1 ∧ 0 ≤ s ∧ s < 262144 ∧ 0 ≤ q :=
    ⟨x / 524288, x % 524288 / 262144, x % 262144, by omega, by omega, by omega, by omega, by omega, by omega⟩
  have q6 : q < 8192 := by omega
  have e1 : x * 8192 % 4294967296 = 2147483648 * r + 8192 * s := by omega
  have e2 : x / 524288 = q := by omega
  have e3 : x * 16384 % 4294967296 = 16384 * s := by omega
  have e4 : x / 262144 = 2 * q + r := by omega
  rw [e1, e2, e3, e4]
  clear e1 e2 e3 e4 hx e
  rcases (show r = 0 ∨ r = 1 by omega) with rfl | rfl <;> omega
theorem rot_15 {x : Int} (h : isW x) : rotN 15 x = x * 32768 % 4294967296 + x / 131072 := by
  have e : rotN 15 x = rot1 (rotN 14 x) := rfl
  rw [e, rot_14 h]; unfold rot1; unfold isW at h
  obtain ⟨q, r, s, hx, h1, h2, h3, h4, h5⟩ : ∃ q r s : Int, x = 262144 * q + 131072 * r + s ∧ 0 ≤ r ∧ r ≤ 1 ∧ 0 ≤ s ∧ s < 131072 ∧ 0 ≤ q :=
    ⟨x / 262144, x % 262144 / 131072, x % 131072, by omega, by omega, by omega, by omega, by omega, by omega⟩
  have q6 : q < 16384 := by omega
  have e1 : x * 16384 % 4294967296 = 2147483648 * r + 16384 * s := by omega
  have e2 : x / 262144 = q := by omega
  have e3 : x * 32768 % 4294967296 = 32768 * s := by omega
  have e4 : x / 131072 = 2 * q + r := by omega
  rw [e1, e2, e3, e4]
  clear e1 e2 e3 e4 hx e
  rcases (show r = 0 ∨ r = 1 by omega) with rfl | rfl <;> omega
theorem rot_16 {x : Int} (h : isW x) : rotN 16 x = x * 65536 % 4294967296 + x / 65536 := by
  have e : rotN 16 x = rot1 (rotN 15 x) := rfl
  rw [e, rot_15 h]; unfold rot1; unfold isW at h
  obtain ⟨q, r, s, hx, h1, h2, h3, h4, h5⟩ : ∃ q r s : Int, x = 131072 * q + 65536 * r + s ∧ 0 ≤ r ∧ r ≤ 1 ∧ 0 ≤ s ∧ s < 65536 ∧ 0 ≤ q :=
    ⟨x / 131072, x % 131072 / 65536, x % 65536, by omega, by omega, by omega, by omega, by omega, by omega⟩
  have q6 : q < 32768 := by omega
  have e1 : x * 32768 % 4294967296 = 2147483648 * r + 32768 * s := by omega
  have e2 : x / 131072 = q := by omega
  have e3 : x * 65536 % 4294967296 = 65536 * s := by omega
  have e4 : x / 65536 = 2 * q + r := by omega
  rw [e1, e2, e3, e4]
  clear e1 e2 e3 e4 hx e
  rcases (show r = 0 ∨ r = 1 by omega) with rfl | rfl <;> omega
end Go.Proofs.Ytmjfnpmnhehnkaa.Sm
