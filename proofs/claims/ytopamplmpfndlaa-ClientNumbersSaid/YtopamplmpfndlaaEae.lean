/- MSmA, MSmB, MSmC -/
import Derived.WalkKit
import Derived.Laws.BitsAllLaws
import Derived.Lib.Hide
import Derived.Test.YtopamplmpfndlaaRows
import Derived.WalkSpells
import Derived.WalkLawsBesides
import Derived.LoopTactic
import Derived.StillTailTactics
import Derived.Deep.QuietTactic
import Derived.BigQuiet
import Derived.RegionTactic
import Derived.ChangeAlike
set_option maxRecDepth 100000
set_option maxHeartbeats 16000000
namespace Go.Proofs.Ytopamplmpfndlaa.Sm
open Go.RowKit
def rot1 (x : Int) : Int := x * 2 % 4294967296 + x / 2147483648
def rotN : Nat → Int → Int
 | 0, x => x
 | k + 1, x => rot1 (rotN k x)
def isW (x : Int) : Prop := 0 ≤ x ∧ x < 4294967296
theorem rot1_w {x : Int} (h : isW x) : isW (rot1 x) := by unfold isW rot1 at *; omega
theorem rotN_w {x : Int} (h : isW x) : ∀ k, isW (rotN k x)
 | 0 => h
 | k + 1 => rot1_w (rotN_w h k)
theorem rot_0 {x : Int} (h : isW x) : rotN 0 x = x * 1 % 4294967296 + x / 4294967296 := by
 have e : rotN 0 x = x := rfl
 rw [e]; unfold isW at h; omega
theorem rot_1 {x : Int} (h : isW x) : rotN 1 x = x * 2 % 4294967296 + x / 2147483648 := by
 have e : rotN 1 x = rot1 (rotN 0 x) := rfl
 rw [e, rot_0 h]; unfold rot1; unfold isW at h
 obtain ⟨q, r, s, hx, h1, h2, h3, h4, h5⟩ : ∃ q r s : Int, x = 4294967296 * q + 2147483648 * r + s ∧ 0 ≤ r ∧ r ≤ 1 ∧ 0 ≤ s ∧ s < 2147483648 ∧ 0 ≤ q :=
  ⟨x / 4294967296, x % 4294967296 / 2147483648, x % 2147483648, by omega, by omega, by omega, by omega, by omega, by omega⟩
 have q6 : q < 1 := by omega
 have e1 : x * 1 % 4294967296 = 2147483648 * r + 1 * s := by omega
 have e2 : x / 4294967296 = q := by omega
 have e3 : x * 2 % 4294967296 = 2 * s := by omega
 have e4 : x / 2147483648 = 2 * q + r := by omega
 rw [e1, e2, e3, e4]
 clear e1 e2 e3 e4 hx e
 rcases (show r = 0 ∨ r = 1 by omega) with rfl | rfl <;> omega
theorem rot_2 {x : Int} (h : isW x) : rotN 2 x = x * 4 % 4294967296 + x / 1073741824 := by
 have e : rotN 2 x = rot1 (rotN 1 x) := rfl
 rw [e, rot_1 h]; unfold rot1; unfold isW at h
 obtain ⟨q, r, s, hx, h1, h2, h3, h4, h5⟩ : ∃ q r s : Int, x = 2147483648 * q + 1073741824 * r + s ∧ 0 ≤ r ∧ r ≤ 1 ∧ 0 ≤ s ∧ s < 1073741824 ∧ 0 ≤ q :=
  ⟨x / 2147483648, x % 2147483648 / 1073741824, x % 1073741824, by omega, by omega, by omega, by omega, by omega, by omega⟩
 have q6 : q < 2 := by omega
 have e1 : x * 2 % 4294967296 = 2147483648 * r + 2 * s := by omega
 have e2 : x / 2147483648 = q := by omega
 have e3 : x * 4 % 4294967296 = 4 * s := by omega
 have e4 : x / 1073741824 = 2 * q + r := by omega
 rw [e1, e2, e3, e4]
 clear e1 e2 e3 e4 hx e
 rcases (show r = 0 ∨ r = 1 by omega) with rfl | rfl <;> omega
theorem rot_3 {x : Int} (h : isW x) : rotN 3 x = x * 8 % 4294967296 + x / 536870912 := by
 have e : rotN 3 x = rot1 (rotN 2 x) := rfl
 rw [e, rot_2 h]; unfold rot1; unfold isW at h
 obtain ⟨q, r, s, hx, h1, h2, h3, h4, h5⟩ : ∃ q r s : Int, x = 1073741824 * q + 536870912 * r + s ∧ 0 ≤ r ∧ r ≤ 1 ∧ 0 ≤ s ∧ s < 536870912 ∧ 0 ≤ q :=
  ⟨x / 1073741824, x % 1073741824 / 536870912, x % 536870912, by omega, by omega, by omega, by omega, by omega, by omega⟩
 have q6 : q < 4 := by omega
 have e1 : x * 4 % 4294967296 = 2147483648 * r + 4 * s := by omega
 have e2 : x / 1073741824 = q := by omega
 have e3 : x * 8 % 4294967296 = 8 * s := by omega
 have e4 : x / 536870912 = 2 * q + r := by omega
 rw [e1, e2, e3, e4]
 clear e1 e2 e3 e4 hx e
 rcases (show r = 0 ∨ r = 1 by omega) with rfl | rfl <;> omega
theorem rot_4 {x : Int} (h : isW x) : rotN 4 x = x * 16 % 4294967296 + x / 268435456 := by
 have e : rotN 4 x = rot1 (rotN 3 x) := rfl
 rw [e, rot_3 h]; unfold rot1; unfold isW at h
 obtain ⟨q, r, s, hx, h1, h2, h3, h4, h5⟩ : ∃ q r s : Int, x = 536870912 * q + 268435456 * r + s ∧ 0 ≤ r ∧ r ≤ 1 ∧ 0 ≤ s ∧ s < 268435456 ∧ 0 ≤ q :=
  ⟨x / 536870912, x % 536870912 / 268435456, x % 268435456, by omega, by omega, by omega, by omega, by omega, by omega⟩
 have q6 : q < 8 := by omega
 have e1 : x * 8 % 4294967296 = 2147483648 * r + 8 * s := by omega
 have e2 : x / 536870912 = q := by omega
 have e3 : x * 16 % 4294967296 = 16 * s := by omega
 have e4 : x / 268435456 = 2 * q + r := by omega
 rw [e1, e2, e3, e4]
 clear e1 e2 e3 e4 hx e
 rcases (show r = 0 ∨ r = 1 by omega) with rfl | rfl <;> omega
theorem rot_5 {x : Int} (h : isW x) : rotN 5 x = x * 32 % 4294967296 + x / 134217728 := by
 have e : rotN 5 x = rot1 (rotN 4 x) := rfl
 rw [e, rot_4 h]; unfold rot1; unfold isW at h
 obtain ⟨q, r, s, hx, h1, h2, h3, h4, h5⟩ : ∃ q r s : Int, x = 268435456 * q + 134217728 * r + s ∧ 0 ≤ r ∧ r ≤ 1 ∧ 0 ≤ s ∧ s < 134217728 ∧ 0 ≤ q :=
  ⟨x / 268435456, x % 268435456 / 134217728, x % 134217728, by omega, by omega, by omega, by omega, by omega, by omega⟩
 have q6 : q < 16 := by omega
 have e1 : x * 16 % 4294967296 = 2147483648 * r + 16 * s := by omega
 have e2 : x / 268435456 = q := by omega
 have e3 : x * 32 % 4294967296 = 32 * s := by omega
 have e4 : x / 134217728 = 2 * q + r := by omega
 rw [e1, e2, e3, e4]
 clear e1 e2 e3 e4 hx e
 rcases (show r = 0 ∨ r = 1 by omega) with rfl | rfl <;> omega
theorem rot_6 {x : Int} (h : isW x) : rotN 6 x = x * 64 % 4294967296 + x / 67108864 := by
 have e : rotN 6 x = rot1 (rotN 5 x) := rfl
 rw [e, rot_5 h]; unfold rot1; unfold isW at h
 obtain ⟨q, r, s, hx, h1, h2, h3, h4, h5⟩ : ∃ q r s : Int, x = 134217728 * q + 67108864 * r + s ∧ 0 ≤ r ∧ r ≤ 1 ∧ 0 ≤ s ∧ s < 67108864 ∧ 0 ≤ q :=
  ⟨x / 134217728, x % 134217728 / 67108864, x % 67108864, by omega, by omega, by omega, by omega, by omega, by omega⟩
 have q6 : q < 32 := by omega
 have e1 : x * 32 % 4294967296 = 2147483648 * r + 32 * s := by omega
 have e2 : x / 134217728 = q := by omega
 have e3 : x * 64 % 4294967296 = 64 * s := by omega
 have e4 : x / 67108864 = 2 * q + r := by omega
 rw [e1, e2, e3, e4]
 clear e1 e2 e3 e4 hx e
 rcases (show r = 0 ∨ r = 1 by omega) with rfl | rfl <;> omega
theorem rot_7 {x : Int} (h : isW x) : rotN 7 x = x * 128 % 4294967296 + x / 33554432 := by
 have e : rotN 7 x = rot1 (rotN 6 x) := rfl
 rw [e, rot_6 h]; unfold rot1; unfold isW at h
 obtain ⟨q, r, s, hx, h1, h2, h3, h4, h5⟩ : ∃ q r s : Int, x = 67108864 * q + 33554432 * r + s ∧ 0 ≤ r ∧ r ≤ 1 ∧ 0 ≤ s ∧ s < 33554432 ∧ 0 ≤ q :=
  ⟨x / 67108864, x % 67108864 / 33554432, x % 33554432, by omega, by omega, by omega, by omega, by omega, by omega⟩
 have q6 : q < 64 := by omega
 have e1 : x * 64 % 4294967296 = 2147483648 * r + 64 * s := by omega
 have e2 : x / 67108864 = q := by omega
 have e3 : x * 128 % 4294967296 = 128 * s := by omega
 have e4 : x / 33554432 = 2 * q + r := by omega
 rw [e1, e2, e3, e4]
 clear e1 e2 e3 e4 hx e
 rcases (show r = 0 ∨ r = 1 by omega) with rfl | rfl <;> omega
theorem rot_8 {x : Int} (h : isW x) : rotN 8 x = x * 256 % 4294967296 + x / 16777216 := by
 have e : rotN 8 x = rot1 (rotN 7 x) := rfl
 rw [e, rot_7 h]; unfold rot1; unfold isW at h
 obtain ⟨q, r, s, hx, h1, h2, h3, h4, h5⟩ : ∃ q r s : Int, x = 33554432 * q + 16777216 * r + s ∧ 0 ≤ r ∧ r ≤ 1 ∧ 0 ≤ s ∧ s < 16777216 ∧ 0 ≤ q :=
  ⟨x / 33554432, x % 33554432 / 16777216, x % 16777216, by omega, by omega, by omega, by omega, by omega, by omega⟩
 have q6 : q < 128 := by omega
 have e1 : x * 128 % 4294967296 = 2147483648 * r + 128 * s := by omega
 have e2 : x / 33554432 = q := by omega
 have e3 : x * 256 % 4294967296 = 256 * s := by omega
 have e4 : x / 16777216 = 2 * q + r := by omega
 rw [e1, e2, e3, e4]
 clear e1 e2 e3 e4 hx e
 rcases (show r = 0 ∨ r = 1 by omega) with rfl | rfl <;> omega
theorem rot_9 {x : Int} (h : isW x) : rotN 9 x = x * 512 % 4294967296 + x / 8388608 := by
 have e : rotN 9 x = rot1 (rotN 8 x) := rfl
 rw [e, rot_8 h]; unfold rot1; unfold isW at h
 obtain ⟨q, r, s, hx, h1, h2, h3, h4, h5⟩ : ∃ q r s : Int, x = 16777216 * q + 8388608 * r + s ∧ 0 ≤ r ∧ r ≤ 1 ∧ 0 ≤ s ∧ s < 8388608 ∧ 0 ≤ q :=
  ⟨x / 16777216, x % 16777216 / 8388608, x % 8388608, by omega, by omega, by omega, by omega, by omega, by omega⟩
 have q6 : q < 256 := by omega
 have e1 : x * 256 % 4294967296 = 2147483648 * r + 256 * s := by omega
 have e2 : x / 16777216 = q := by omega
 have e3 : x * 512 % 4294967296 = 512 * s := by omega
 have e4 : x / 8388608 = 2 * q + r := by omega
 rw [e1, e2, e3, e4]
 clear e1 e2 e3 e4 hx e
 rcases (show r = 0 ∨ r = 1 by omega) with rfl | rfl <;> omega
theorem rot_10 {x : Int} (h : isW x) : rotN 10 x = x * 1024 % 4294967296 + x / 4194304 := by
 have e : rotN 10 x = rot1 (rotN 9 x) := rfl
 rw [e, rot_9 h]; unfold rot1; unfold isW at h
 obtain ⟨q, r, s, hx, h1, h2, h3, h4, h5⟩ : ∃ q r s : Int, x = 8388608 * q + 4194304 * r + s ∧ 0 ≤ r ∧ r ≤ 1 ∧ 0 ≤ s ∧ s < 4194304 ∧ 0 ≤ q :=
  ⟨x / 8388608, x % 8388608 / 4194304, x % 4194304, by omega, by omega, by omega, by omega, by omega, by omega⟩
 have q6 : q < 512 := by omega
 have e1 : x * 512 % 4294967296 = 2147483648 * r + 512 * s := by omega
 have e2 : x / 8388608 = q := by omega
 have e3 : x * 1024 % 4294967296 = 1024 * s := by omega
 have e4 : x / 4194304 = 2 * q + r := by omega
 rw [e1, e2, e3, e4]
 clear e1 e2 e3 e4 hx e
 rcases (show r = 0 ∨ r = 1 by omega) with rfl | rfl <;> omega
theorem rot_11 {x : Int} (h : isW x) : rotN 11 x = x * 2048 % 4294967296 + x / 2097152 := by
 have e : rotN 11 x = rot1 (rotN 10 x) := rfl
 rw [e, rot_10 h]; unfold rot1; unfold isW at h
 obtain ⟨q, r, s, hx, h1, h2, h3, h4, h5⟩ : ∃ q r s : Int, x = 4194304 * q + 2097152 * r + s ∧ 0 ≤ r ∧ r ≤ 1 ∧ 0 ≤ s ∧ s < 2097152 ∧ 0 ≤ q :=
  ⟨x / 4194304, x % 4194304 / 2097152, x % 2097152, by omega, by omega, by omega, by omega, by omega, by omega⟩
 have q6 : q < 1024 := by omega
 have e1 : x * 1024 % 4294967296 = 2147483648 * r + 1024 * s := by omega
 have e2 : x / 4194304 = q := by omega
 have e3 : x * 2048 % 4294967296 = 2048 * s := by omega
 have e4 : x / 2097152 = 2 * q + r := by omega
 rw [e1, e2, e3, e4]
 clear e1 e2 e3 e4 hx e
 rcases (show r = 0 ∨ r = 1 by omega) with rfl | rfl <;> omega
theorem rot_12 {x : Int} (h : isW x) : rotN 12 x = x * 4096 % 4294967296 + x / 1048576 := by
 have e : rotN 12 x = rot1 (rotN 11 x) := rfl
 rw [e, rot_11 h]; unfold rot1; unfold isW at h
 obtain ⟨q, r, s, hx, h1, h2, h3, h4, h5⟩ : ∃ q r s : Int, x = 2097152 * q + 1048576 * r + s ∧ 0 ≤ r ∧ r ≤ 1 ∧ 0 ≤ s ∧ s < 1048576 ∧ 0 ≤ q :=
  ⟨x / 2097152, x % 2097152 / 1048576, x % 1048576, by omega, by omega, by omega, by omega, by omega, by omega⟩
 have q6 : q < 2048 := by omega
 have e1 : x * 2048 % 4294967296 = 2147483648 * r + 2048 * s := by omega
 have e2 : x / 2097152 = q := by omega
 have e3 : x * 4096 % 4294967296 = 4096 * s := by omega
 have e4 : x / 1048576 = 2 * q + r := by omega
 rw [e1, e2, e3, e4]
 clear e1 e2 e3 e4 hx e
 rcases (show r = 0 ∨ r = 1 by omega) with rfl | rfl <;> omega
theorem rot_13 {x : Int} (h : isW x) : rotN 13 x = x * 8192 % 4294967296 + x / 524288 := by
 have e : rotN 13 x = rot1 (rotN 12 x) := rfl
 rw [e, rot_12 h]; unfold rot1; unfold isW at h
 obtain ⟨q, r, s, hx, h1, h2, h3, h4, h5⟩ : ∃ q r s : Int, x = 1048576 * q + 524288 * r + s ∧ 0 ≤ r ∧ r ≤ 1 ∧ 0 ≤ s ∧ s < 524288 ∧ 0 ≤ q :=
  ⟨x / 1048576, x % 1048576 / 524288, x % 524288, by omega, by omega, by omega, by omega, by omega, by omega⟩
 have q6 : q < 4096 := by omega
 have e1 : x * 4096 % 4294967296 = 2147483648 * r + 4096 * s := by omega
 have e2 : x / 1048576 = q := by omega
 have e3 : x * 8192 % 4294967296 = 8192 * s := by omega
 have e4 : x / 524288 = 2 * q + r := by omega
 rw [e1, e2, e3, e4]
 clear e1 e2 e3 e4 hx e
 rcases (show r = 0 ∨ r = 1 by omega) with rfl | rfl <;> omega
theorem rot_14 {x : Int} (h : isW x) : rotN 14 x = x * 16384 % 4294967296 + x / 262144 := by
 have e : rotN 14 x = rot1 (rotN 13 x) := rfl
 rw [e, rot_13 h]; unfold rot1; unfold isW at h
 obtain ⟨q, r, s, hx, h1, h2, h3, h4, h5⟩ : ∃ q r s : Int, x = 524288 * q + 262144 * r + s ∧ 0 ≤ r ∧ r ≤ 1 ∧ 0 ≤ s ∧ s < 262144 ∧ 0 ≤ q :=
  ⟨x / 524288, x % 524288 / 262144, x % 262144, by omega, by omega, by omega, by omega, by omega, by omega⟩
 have q6 : q < 8192 := by omega
 have e1 : x * 8192 % 4294967296 = 2147483648 * r + 8192 * s := by omega
 have e2 : x / 524288 = q := by omega
 have e3 : x * 16384 % 4294967296 = 16384 * s := by omega
 have e4 : x / 262144 = 2 * q + r := by omega
 rw [e1, e2, e3, e4]
 clear e1 e2 e3 e4 hx e
 rcases (show r = 0 ∨ r = 1 by omega) with rfl | rfl <;> omega
theorem rot_15 {x : Int} (h : isW x) : rotN 15 x = x * 32768 % 4294967296 + x / 131072 := by
 have e : rotN 15 x = rot1 (rotN 14 x) := rfl
 rw [e, rot_14 h]; unfold rot1; unfold isW at h
 obtain ⟨q, r, s, hx, h1, h2, h3, h4, h5⟩ : ∃ q r s : Int, x = 262144 * q + 131072 * r + s ∧ 0 ≤ r ∧ r ≤ 1 ∧ 0 ≤ s ∧ s < 131072 ∧ 0 ≤ q :=
  ⟨x / 262144, x % 262144 / 131072, x % 131072, by omega, by omega, by omega, by omega, by omega, by omega⟩
 have q6 : q < 16384 := by omega
 have e1 : x * 16384 % 4294967296 = 2147483648 * r + 16384 * s := by omega
 have e2 : x / 262144 = q := by omega
 have e3 : x * 32768 % 4294967296 = 32768 * s := by omega
 have e4 : x / 131072 = 2 * q + r := by omega
 rw [e1, e2, e3, e4]
 clear e1 e2 e3 e4 hx e
 rcases (show r = 0 ∨ r = 1 by omega) with rfl | rfl <;> omega
theorem rot_16 {x : Int} (h : isW x) : rotN 16 x = x * 65536 % 4294967296 + x / 65536 := by
 have e : rotN 16 x = rot1 (rotN 15 x) := rfl
 rw [e, rot_15 h]; unfold rot1; unfold isW at h
 obtain ⟨q, r, s, hx, h1, h2, h3, h4, h5⟩ : ∃ q r s : Int, x = 131072 * q + 65536 * r + s ∧ 0 ≤ r ∧ r ≤ 1 ∧ 0 ≤ s ∧ s < 65536 ∧ 0 ≤ q :=
  ⟨x / 131072, x % 131072 / 65536, x % 65536, by omega, by omega, by omega, by omega, by omega, by omega⟩
 have q6 : q < 32768 := by omega
 have e1 : x * 32768 % 4294967296 = 2147483648 * r + 32768 * s := by omega
 have e2 : x / 131072 = q := by omega
 have e3 : x * 65536 % 4294967296 = 65536 * s := by omega
 have e4 : x / 65536 = 2 * q + r := by omega
 rw [e1, e2, e3, e4]
 clear e1 e2 e3 e4 hx e
 rcases (show r = 0 ∨ r = 1 by omega) with rfl | rfl <;> omega
end Go.Proofs.Ytopamplmpfndlaa.Sm
namespace Go.Proofs.Ytopamplmpfndlaa.Sm
open Go.RowKit
theorem smret {a b : Value} (h : a = b) : Ending.returned a = Ending.returned b := by rw [h]
theorem or_join (i : Nat) (a b : Int) (ha : 0 ≤ a) (ha' : a < 4294967296) (hb : 0 ≤ b) (hb' : b < 4294967296) (h1 : a.toNat % 2 ^ i = 0) (h2 : b.toNat < 2 ^ i) : bits .or .u32 a b = a + b := by
 rw [u32_or a b ha ha' hb hb', nat_join i _ _ h1 h2]; omega
theorem rol16 (x : Int) (h : isW x) (w : World) :
  Calls Try.prog 154 #[.int .u32 x, .int .i64 16] w fun e w' => e = .returned (.int .u32 (rotN 16 x)) ∧ w = w' := by
 have h0 : 0 ≤ x := h.1
 have h1 : x < 4294967296 := h.2
 go_enter Try.func154, Try.ntmps154
 have hb : bits BinOp.and IntKind.u64 16 31 = 16 := by decide
 go_wp2
 go_ret
 refine ⟨smret (congrArg (Value.int .u32) ?_), rfl⟩
 clear hb
 rw [or_join 16 _ _ (by omega) (by omega) (by omega) (by omega) (by omega) (by omega), rot_16 h]
theorem rol12 (x : Int) (h : isW x) (w : World) :
  Calls Try.prog 154 #[.int .u32 x, .int .i64 12] w fun e w' => e = .returned (.int .u32 (rotN 12 x)) ∧ w = w' := by
 have h0 : 0 ≤ x := h.1
 have h1 : x < 4294967296 := h.2
 go_enter Try.func154, Try.ntmps154
 have hb : bits BinOp.and IntKind.u64 12 31 = 12 := by decide
 go_wp2
 go_ret
 refine ⟨smret (congrArg (Value.int .u32) ?_), rfl⟩
 clear hb
 rw [or_join 12 _ _ (by omega) (by omega) (by omega) (by omega) (by omega) (by omega), rot_12 h]
theorem rol8 (x : Int) (h : isW x) (w : World) :
  Calls Try.prog 154 #[.int .u32 x, .int .i64 8] w fun e w' => e = .returned (.int .u32 (rotN 8 x)) ∧ w = w' := by
 have h0 : 0 ≤ x := h.1
 have h1 : x < 4294967296 := h.2
 go_enter Try.func154, Try.ntmps154
 have hb : bits BinOp.and IntKind.u64 8 31 = 8 := by decide
 go_wp2
 go_ret
 refine ⟨smret (congrArg (Value.int .u32) ?_), rfl⟩
 clear hb
 rw [or_join 8 _ _ (by omega) (by omega) (by omega) (by omega) (by omega) (by omega), rot_8 h]
theorem rol7 (x : Int) (h : isW x) (w : World) :
  Calls Try.prog 154 #[.int .u32 x, .int .i64 7] w fun e w' => e = .returned (.int .u32 (rotN 7 x)) ∧ w = w' := by
 have h0 : 0 ≤ x := h.1
 have h1 : x < 4294967296 := h.2
 go_enter Try.func154, Try.ntmps154
 have hb : bits BinOp.and IntKind.u64 7 31 = 7 := by decide
 go_wp2
 go_ret
 refine ⟨smret (congrArg (Value.int .u32) ?_), rfl⟩
 clear hb
 rw [or_join 7 _ _ (by omega) (by omega) (by omega) (by omega) (by omega) (by omega), rot_7 h]
theorem turn_any (x : Int) (h : isW x) (k : Nat) (hk : k ≤ 16) (w : World) :
  Calls Try.prog 155 #[.int .u32 x, .int .i64 k] w fun e w' => e = .returned (.int .u32 (rotN k x)) ∧ w = w' := by
 go_enter Try.func155, Try.ntmps155
 go_wp2
 go_loop [0, 1] (fun a i => ∃ j : Nat, j ≤ k ∧ i = .int .i64 j ∧ a = .int .u32 (rotN (k - j) x)) (fun _ i => (intOf i).toNat)
 case atStart => exact ⟨k, Nat.le_refl _, rfl, by rw [Nat.sub_self]; rfl⟩
 obtain ⟨j, hj, rfl, rfl⟩ := hrel
 have hw := rotN_w h (k - j)
 obtain ⟨y, hy⟩ : ∃ y, y = rotN (k - j) x := ⟨_, rfl⟩
 rw [← hy] at hw ⊢
 have HY := Lib.hid hy
 clear hy
 have hw0 := hw.1
 have hw1 := hw.2
 by_cases hlt : 0 < j
 ·go_wp2
  go_round
  case rel =>
   refine ⟨j - 1, by omega, by rw [show (j : Int) - 1 = ((j - 1 : Nat) : Int) by omega], ?_⟩
   rw [or_join 1 _ _ (by omega) (by omega) (by omega) (by omega) (by omega) (by omega), HY.out, show k - (j - 1) = (k - j) + 1 by omega]
   rfl
  case measure => simp [intOf]; omega
 obtain rfl : j = 0 := by omega
 go_wp2
 go_ret
 exact ⟨smret (congrArg (Value.int .u32) HY.out), rfl⟩
end Go.Proofs.Ytopamplmpfndlaa.Sm
namespace Go.Proofs.Ytopamplmpfndlaa.Sm
open Go.RowKit
structure Wd where
 a : Int
 b : Int
 c : Int
 d : Int
def Wd.cells (s : Wd) : Array Value := #[.int .u32 s.a, .int .u32 s.b, .int .u32 s.c, .int .u32 s.d]
structure Wd.Ok (s : Wd) : Prop where
 a : isW s.a
 b : isW s.b
 c : isW s.c
 d : isW s.d
def addW (x y : Int) : Int := (x + y) % 4294967296
def xorW (x y : Int) : Int := bits .xor .u32 x y
theorem addW_w (x y : Int) : isW (addW x y) := by unfold addW isW; omega
theorem xorW_w {x y : Int} (hx : isW x) (hy : isW y) : isW (xorW x y) := by
 unfold xorW
 rw [u32_xor x y hx.1 hx.2 hy.1 hy.2]
 have h := Nat.xor_lt_two_pow (n := 32) (x := x.toNat) (y := y.toNat) (by unfold isW at hx; omega) (by unfold isW at hy; omega)
 unfold isW; omega
def stir1 (s : Wd) : Wd :=
  ⟨addW (addW s.a s.b) (rotN 12 (xorW s.b (addW s.c (rotN 16 (xorW s.d (addW s.a s.b)))))),
   rotN 7 (xorW (rotN 12 (xorW s.b (addW s.c (rotN 16 (xorW s.d (addW s.a s.b)))))) (addW (addW s.c (rotN 16 (xorW s.d (addW s.a s.b)))) (rotN 8 (xorW (rotN 16 (xorW s.d (addW s.a s.b))) (addW (addW s.a s.b) (rotN 12 (xorW s.b (addW s.c (rotN 16 (xorW s.d (addW s.a s.b))))))))))),
   addW (addW s.c (rotN 16 (xorW s.d (addW s.a s.b)))) (rotN 8 (xorW (rotN 16 (xorW s.d (addW s.a s.b))) (addW (addW s.a s.b) (rotN 12 (xorW s.b (addW s.c (rotN 16 (xorW s.d (addW s.a s.b))))))))),
   rotN 8 (xorW (rotN 16 (xorW s.d (addW s.a s.b))) (addW (addW s.a s.b) (rotN 12 (xorW s.b (addW s.c (rotN 16 (xorW s.d (addW s.a s.b))))))))⟩
theorem stir1_ok {s : Wd} (h : s.Ok) : (stir1 s).Ok := by
 have h1 := addW_w s.a s.b
 have h2 := rotN_w (xorW_w h.d h1) 16
 have h3 := addW_w s.c (rotN 16 (xorW s.d (addW s.a s.b)))
 have h4 := rotN_w (xorW_w h.b h3) 12
 have h5 := addW_w (addW s.a s.b) (rotN 12 (xorW s.b (addW s.c (rotN 16 (xorW s.d (addW s.a s.b))))))
 have h6 := rotN_w (xorW_w h2 h5) 8
 have h7 := addW_w (addW s.c (rotN 16 (xorW s.d (addW s.a s.b)))) (rotN 8 (xorW (rotN 16 (xorW s.d (addW s.a s.b))) (addW (addW s.a s.b) (rotN 12 (xorW s.b (addW s.c (rotN 16 (xorW s.d (addW s.a s.b)))))))))
 have h8 := rotN_w (xorW_w h4 h7) 7
 exact ⟨h5, h8, h7, h6⟩
def Bk (w : World) (B : Nat) (t : TypeId) (cs : Array Value) : Prop := w.heap[B]? = some (.cells cs t (0, 0))
theorem Bk.put {w : World} {B : Nat} {t : TypeId} {cs : Array Value} (h : Bk w B t cs) (i : Nat) (v : Value) : Bk (w.setCell ⟨B, i, none⟩ v) B t (cs.setIfInBounds i v) := by
 unfold Bk at *; simp [World.setCell, Array.getElem?_modify, h]
theorem Bk.draw {w : World} {B : Nat} {t : TypeId} {cs : Array Value} (h : Bk w B t cs) : Bk w.drew B t cs := h
theorem Bk.cell {w : World} {B : Nat} {t : TypeId} {cs : Array Value} (h : Bk w B t cs) (i : Nat) : w.cell? ⟨B, i, none⟩ = cs[i]? := by
 unfold Bk at h; simp [World.cell?, h]
theorem Bk.fr {w : World} {B : Nat} {t : TypeId} {cs : Array Value} (h : Bk w B t cs) (i : Nat) : w.frozen? ⟨B, i, none⟩ = false := by
 unfold Bk at h; simp [World.frozen?, h]
theorem only_put {a w : World} {g : Nat} (h : a.grownBy w (some g)) (i : Nat) (u : Value) : a.grownBy (w.setCell ⟨g, i, none⟩ u) (some g) :=
 ⟨h.os, h.tape, h.output, by simpa [World.setCell] using h.size, fun k hk hne => (Below.heap_setCell w ⟨g, i, none⟩ u k (by rintro rfl; exact hne rfl)).trans (h.block k hk hne)⟩
theorem only_draw {a w : World} {row : Option Nat} (h : a.grownBy w row) : a.grownBy w.drew row := ⟨h.os, h.tape, h.output, h.size, h.block⟩
theorem only_none (w : World) (row : Option Nat) : w.grownBy w row := ⟨rfl, rfl, rfl, Nat.le_refl _, fun _ _ _ => rfl⟩
theorem flip_calls {P : Program} {f : FuncId} {args : Array Value} {w : World} {v : Value} (h : Calls P f args w fun e w' => e = .returned v ∧ w = w') : Calls P f args w fun e w'' => e = .returned v ∧ w'' = w :=
 h.mono fun _ _ ⟨he, hw⟩ => ⟨he, hw.symm⟩
theorem turn16 (x : Int) (h : isW x) (w : World) : Calls Try.prog 155 #[.int .u32 x, .int .i64 16] w fun e w' => e = .returned (.int .u32 (rotN 16 x)) ∧ w = w' := turn_any x h 16 (by omega) w
theorem turn12 (x : Int) (h : isW x) (w : World) : Calls Try.prog 155 #[.int .u32 x, .int .i64 12] w fun e w' => e = .returned (.int .u32 (rotN 12 x)) ∧ w = w' := turn_any x h 12 (by omega) w
theorem turn8 (x : Int) (h : isW x) (w : World) : Calls Try.prog 155 #[.int .u32 x, .int .i64 8] w fun e w' => e = .returned (.int .u32 (rotN 8 x)) ∧ w = w' := turn_any x h 8 (by omega) w
theorem turn7 (x : Int) (h : isW x) (w : World) : Calls Try.prog 155 #[.int .u32 x, .int .i64 7] w fun e w' => e = .returned (.int .u32 (rotN 7 x)) ∧ w = w' := turn_any x h 7 (by omega) w
theorem rstir_any (s : Wd) (ok : s.Ok) (B : Nat) (w : World) (hB : Bk w B 64 s.cells) :
  Calls Try.prog 118 #[.slice (some ⟨B, 0, none⟩) 4 4] w fun e w' => e = .returned (.tuple #[]) ∧ Bk w' B 64 (stir1 s).cells ∧ w.grownBy w' (some B) := by
 obtain ⟨⟨a0, a1⟩, ⟨b0, b1⟩, ⟨c0, c1⟩, ⟨d0, d1⟩⟩ := ok
 have k0 : w.cell? ⟨B, 0, none⟩ = some (.int .u32 s.a) := hB.cell 0
 have k1 : w.cell? ⟨B, 1, none⟩ = some (.int .u32 s.b) := hB.cell 1
 have k2 : w.cell? ⟨B, 2, none⟩ = some (.int .u32 s.c) := hB.cell 2
 have k3 : w.cell? ⟨B, 3, none⟩ = some (.int .u32 s.d) := hB.cell 3
 have f0 : w.frozen? ⟨B, 0, none⟩ = false := hB.fr 0
 have f1 : w.frozen? ⟨B, 1, none⟩ = false := hB.fr 1
 have f2 : w.frozen? ⟨B, 2, none⟩ = false := hB.fr 2
 have f3 : w.frozen? ⟨B, 3, none⟩ = false := hB.fr 3
 have HB := Lib.hid hB
 have HO := Lib.hid (only_none w (some B))
 clear hB
 go_enter Try.func118, Try.ntmps118
 go_wp2
 go_still_tail 8, (by kernel_rfl)
 change wpList _ _ _ _ _ w.drew
 go_wp2
 generalize hw : (w.setCell ⟨B, 0, none⟩ (.int .u32 ((s.a + s.b) % 4294967296))).drew = w0
 have hO : Hid (w.grownBy w0 (some B)) := by rw [← hw]; exact Lib.hid (only_draw (only_put HO.out 0 (.int .u32 ((s.a + s.b) % 4294967296))))
 have hB : Hid (Bk w0 B 64 #[.int .u32 ((s.a + s.b) % 4294967296), .int .u32 s.b, .int .u32 s.c, .int .u32 s.d]) := by rw [← hw]; exact Lib.hid (HB.out.put 0 (.int .u32 ((s.a + s.b) % 4294967296))).draw
 clear hw k0 k1 k2 k3 f0 f1 f2 f3 HO HB
 obtain ⟨v0, hv0⟩ : ∃ v, v = addW s.a s.b := ⟨_, rfl⟩
 have hy0 := addW_w s.a s.b
 rw [show (s.a + s.b) % 4294967296 = v0 from hv0.symm] at hB
 rw [← hv0] at hy0
 have Hv0 := Lib.hid hv0
 clear hv0
 have pv0 := hy0.1
 have qv0 := hy0.2
 clear hy0
 have k0 : w0.cell? ⟨B, 0, none⟩ = some (.int .u32 v0) := hB.out.cell 0
 have k1 : w0.cell? ⟨B, 1, none⟩ = some (.int .u32 s.b) := hB.out.cell 1
 have k2 : w0.cell? ⟨B, 2, none⟩ = some (.int .u32 s.c) := hB.out.cell 2
 have k3 : w0.cell? ⟨B, 3, none⟩ = some (.int .u32 s.d) := hB.out.cell 3
 have f0 : w0.frozen? ⟨B, 0, none⟩ = false := hB.out.fr 0
 have f1 : w0.frozen? ⟨B, 1, none⟩ = false := hB.out.fr 1
 have f2 : w0.frozen? ⟨B, 2, none⟩ = false := hB.out.fr 2
 have f3 : w0.frozen? ⟨B, 3, none⟩ = false := hB.out.fr 3
 have HB := hB
 have HO := hO
 clear hB hO
 go_still_tail 9, (by kernel_rfl)
 have hx1 := xorW_w (x := s.d) (y := v0) ⟨by omega, by omega⟩ ⟨by omega, by omega⟩
 refine wpStill_step (fun K hK => ?_)
 go_simp
 refine ⟨_, flip_calls (turn16 _ hx1 _), hK _ ?_⟩
 clear hK K
 refine wpStill_nil ?_
 have hy1 := rotN_w hx1 16
 obtain ⟨v1, hv1⟩ : ∃ v, v = rotN 16 (xorW s.d v0) := ⟨_, rfl⟩
 change wpList _ _ _ _ _ w0.drew
 rw [← hv1] at hy1 ⊢
 have Hv1 := Lib.hid hv1
 clear hv1 hx1
 have pv1 := hy1.1
 have qv1 := hy1.2
 clear hy1
 go_wp2
 generalize hw : (w0.setCell ⟨B, 3, none⟩ (.int .u32 v1)).drew = w1
 have hO : Hid (w.grownBy w1 (some B)) := by rw [← hw]; exact Lib.hid (only_draw (only_put HO.out 3 (.int .u32 v1)))
 have hB : Hid (Bk w1 B 64 #[.int .u32 v0, .int .u32 s.b, .int .u32 s.c, .int .u32 v1]) := by rw [← hw]; exact Lib.hid (HB.out.put 3 (.int .u32 v1)).draw
 clear hw k0 k1 k2 k3 f0 f1 f2 f3 HO HB
 have k0 : w1.cell? ⟨B, 0, none⟩ = some (.int .u32 v0) := hB.out.cell 0
 have k1 : w1.cell? ⟨B, 1, none⟩ = some (.int .u32 s.b) := hB.out.cell 1
 have k2 : w1.cell? ⟨B, 2, none⟩ = some (.int .u32 s.c) := hB.out.cell 2
 have k3 : w1.cell? ⟨B, 3, none⟩ = some (.int .u32 v1) := hB.out.cell 3
 have f0 : w1.frozen? ⟨B, 0, none⟩ = false := hB.out.fr 0
 have f1 : w1.frozen? ⟨B, 1, none⟩ = false := hB.out.fr 1
 have f2 : w1.frozen? ⟨B, 2, none⟩ = false := hB.out.fr 2
 have f3 : w1.frozen? ⟨B, 3, none⟩ = false := hB.out.fr 3
 have HB := hB
 have HO := hO
 clear hB hO
 go_still_tail 8, (by kernel_rfl)
 change wpList _ _ _ _ _ w1.drew
 go_wp2
 generalize hw : (w1.setCell ⟨B, 2, none⟩ (.int .u32 ((s.c + v1) % 4294967296))).drew = w2
 have hO : Hid (w.grownBy w2 (some B)) := by rw [← hw]; exact Lib.hid (only_draw (only_put HO.out 2 (.int .u32 ((s.c + v1) % 4294967296))))
 have hB : Hid (Bk w2 B 64 #[.int .u32 v0, .int .u32 s.b, .int .u32 ((s.c + v1) % 4294967296), .int .u32 v1]) := by rw [← hw]; exact Lib.hid (HB.out.put 2 (.int .u32 ((s.c + v1) % 4294967296))).draw
 clear hw k0 k1 k2 k3 f0 f1 f2 f3 HO HB
 obtain ⟨v2, hv2⟩ : ∃ v, v = addW s.c v1 := ⟨_, rfl⟩
 have hy2 := addW_w s.c v1
 rw [show (s.c + v1) % 4294967296 = v2 from hv2.symm] at hB
 rw [← hv2] at hy2
 have Hv2 := Lib.hid hv2
 clear hv2
 have pv2 := hy2.1
 have qv2 := hy2.2
 clear hy2
 have k0 : w2.cell? ⟨B, 0, none⟩ = some (.int .u32 v0) := hB.out.cell 0
 have k1 : w2.cell? ⟨B, 1, none⟩ = some (.int .u32 s.b) := hB.out.cell 1
 have k2 : w2.cell? ⟨B, 2, none⟩ = some (.int .u32 v2) := hB.out.cell 2
 have k3 : w2.cell? ⟨B, 3, none⟩ = some (.int .u32 v1) := hB.out.cell 3
 have f0 : w2.frozen? ⟨B, 0, none⟩ = false := hB.out.fr 0
 have f1 : w2.frozen? ⟨B, 1, none⟩ = false := hB.out.fr 1
 have f2 : w2.frozen? ⟨B, 2, none⟩ = false := hB.out.fr 2
 have f3 : w2.frozen? ⟨B, 3, none⟩ = false := hB.out.fr 3
 have HB := hB
 have HO := hO
 clear hB hO
 go_still_tail 9, (by kernel_rfl)
 have hx3 := xorW_w (x := s.b) (y := v2) ⟨by omega, by omega⟩ ⟨by omega, by omega⟩
 refine wpStill_step (fun K hK => ?_)
 go_simp
 refine ⟨_, flip_calls (turn12 _ hx3 _), hK _ ?_⟩
 clear hK K
 refine wpStill_nil ?_
 have hy3 := rotN_w hx3 12
 obtain ⟨v3, hv3⟩ : ∃ v, v = rotN 12 (xorW s.b v2) := ⟨_, rfl⟩
 change wpList _ _ _ _ _ w2.drew
 rw [← hv3] at hy3 ⊢
 have Hv3 := Lib.hid hv3
 clear hv3 hx3
 have pv3 := hy3.1
 have qv3 := hy3.2
 clear hy3
 go_wp2
 generalize hw : (w2.setCell ⟨B, 1, none⟩ (.int .u32 v3)).drew = w3
 have hO : Hid (w.grownBy w3 (some B)) := by rw [← hw]; exact Lib.hid (only_draw (only_put HO.out 1 (.int .u32 v3)))
 have hB : Hid (Bk w3 B 64 #[.int .u32 v0, .int .u32 v3, .int .u32 v2, .int .u32 v1]) := by rw [← hw]; exact Lib.hid (HB.out.put 1 (.int .u32 v3)).draw
 clear hw k0 k1 k2 k3 f0 f1 f2 f3 HO HB
 have k0 : w3.cell? ⟨B, 0, none⟩ = some (.int .u32 v0) := hB.out.cell 0
 have k1 : w3.cell? ⟨B, 1, none⟩ = some (.int .u32 v3) := hB.out.cell 1
 have k2 : w3.cell? ⟨B, 2, none⟩ = some (.int .u32 v2) := hB.out.cell 2
 have k3 : w3.cell? ⟨B, 3, none⟩ = some (.int .u32 v1) := hB.out.cell 3
 have f0 : w3.frozen? ⟨B, 0, none⟩ = false := hB.out.fr 0
 have f1 : w3.frozen? ⟨B, 1, none⟩ = false := hB.out.fr 1
 have f2 : w3.frozen? ⟨B, 2, none⟩ = false := hB.out.fr 2
 have f3 : w3.frozen? ⟨B, 3, none⟩ = false := hB.out.fr 3
 have HB := hB
 have HO := hO
 clear hB hO
 go_still_tail 8, (by kernel_rfl)
 change wpList _ _ _ _ _ w3.drew
 go_wp2
 generalize hw : (w3.setCell ⟨B, 0, none⟩ (.int .u32 ((v0 + v3) % 4294967296))).drew = w4
 have hO : Hid (w.grownBy w4 (some B)) := by rw [← hw]; exact Lib.hid (only_draw (only_put HO.out 0 (.int .u32 ((v0 + v3) % 4294967296))))
 have hB : Hid (Bk w4 B 64 #[.int .u32 ((v0 + v3) % 4294967296), .int .u32 v3, .int .u32 v2, .int .u32 v1]) := by rw [← hw]; exact Lib.hid (HB.out.put 0 (.int .u32 ((v0 + v3) % 4294967296))).draw
 clear hw k0 k1 k2 k3 f0 f1 f2 f3 HO HB
 obtain ⟨v4, hv4⟩ : ∃ v, v = addW v0 v3 := ⟨_, rfl⟩
 have hy4 := addW_w v0 v3
 rw [show (v0 + v3) % 4294967296 = v4 from hv4.symm] at hB
 rw [← hv4] at hy4
 have Hv4 := Lib.hid hv4
 clear hv4
 have pv4 := hy4.1
 have qv4 := hy4.2
 clear hy4
 have k0 : w4.cell? ⟨B, 0, none⟩ = some (.int .u32 v4) := hB.out.cell 0
 have k1 : w4.cell? ⟨B, 1, none⟩ = some (.int .u32 v3) := hB.out.cell 1
 have k2 : w4.cell? ⟨B, 2, none⟩ = some (.int .u32 v2) := hB.out.cell 2
 have k3 : w4.cell? ⟨B, 3, none⟩ = some (.int .u32 v1) := hB.out.cell 3
 have f0 : w4.frozen? ⟨B, 0, none⟩ = false := hB.out.fr 0
 have f1 : w4.frozen? ⟨B, 1, none⟩ = false := hB.out.fr 1
 have f2 : w4.frozen? ⟨B, 2, none⟩ = false := hB.out.fr 2
 have f3 : w4.frozen? ⟨B, 3, none⟩ = false := hB.out.fr 3
 have HB := hB
 have HO := hO
 clear hB hO
 go_still_tail 9, (by kernel_rfl)
 have hx5 := xorW_w (x := v1) (y := v4) ⟨by omega, by omega⟩ ⟨by omega, by omega⟩
 refine wpStill_step (fun K hK => ?_)
 go_simp
 refine ⟨_, flip_calls (turn8 _ hx5 _), hK _ ?_⟩
 clear hK K
 refine wpStill_nil ?_
 have hy5 := rotN_w hx5 8
 obtain ⟨v5, hv5⟩ : ∃ v, v = rotN 8 (xorW v1 v4) := ⟨_, rfl⟩
 change wpList _ _ _ _ _ w4.drew
 rw [← hv5] at hy5 ⊢
 have Hv5 := Lib.hid hv5
 clear hv5 hx5
 have pv5 := hy5.1
 have qv5 := hy5.2
 clear hy5
 go_wp2
 generalize hw : (w4.setCell ⟨B, 3, none⟩ (.int .u32 v5)).drew = w5
 have hO : Hid (w.grownBy w5 (some B)) := by rw [← hw]; exact Lib.hid (only_draw (only_put HO.out 3 (.int .u32 v5)))
 have hB : Hid (Bk w5 B 64 #[.int .u32 v4, .int .u32 v3, .int .u32 v2, .int .u32 v5]) := by rw [← hw]; exact Lib.hid (HB.out.put 3 (.int .u32 v5)).draw
 clear hw k0 k1 k2 k3 f0 f1 f2 f3 HO HB
 have k0 : w5.cell? ⟨B, 0, none⟩ = some (.int .u32 v4) := hB.out.cell 0
 have k1 : w5.cell? ⟨B, 1, none⟩ = some (.int .u32 v3) := hB.out.cell 1
 have k2 : w5.cell? ⟨B, 2, none⟩ = some (.int .u32 v2) := hB.out.cell 2
 have k3 : w5.cell? ⟨B, 3, none⟩ = some (.int .u32 v5) := hB.out.cell 3
 have f0 : w5.frozen? ⟨B, 0, none⟩ = false := hB.out.fr 0
 have f1 : w5.frozen? ⟨B, 1, none⟩ = false := hB.out.fr 1
 have f2 : w5.frozen? ⟨B, 2, none⟩ = false := hB.out.fr 2
 have f3 : w5.frozen? ⟨B, 3, none⟩ = false := hB.out.fr 3
 have HB := hB
 have HO := hO
 clear hB hO
 go_still_tail 8, (by kernel_rfl)
 change wpList _ _ _ _ _ w5.drew
 go_wp2
 generalize hw : (w5.setCell ⟨B, 2, none⟩ (.int .u32 ((v2 + v5) % 4294967296))).drew = w6
 have hO : Hid (w.grownBy w6 (some B)) := by rw [← hw]; exact Lib.hid (only_draw (only_put HO.out 2 (.int .u32 ((v2 + v5) % 4294967296))))
 have hB : Hid (Bk w6 B 64 #[.int .u32 v4, .int .u32 v3, .int .u32 ((v2 + v5) % 4294967296), .int .u32 v5]) := by rw [← hw]; exact Lib.hid (HB.out.put 2 (.int .u32 ((v2 + v5) % 4294967296))).draw
 clear hw k0 k1 k2 k3 f0 f1 f2 f3 HO HB
 obtain ⟨v6, hv6⟩ : ∃ v, v = addW v2 v5 := ⟨_, rfl⟩
 have hy6 := addW_w v2 v5
 rw [show (v2 + v5) % 4294967296 = v6 from hv6.symm] at hB
 rw [← hv6] at hy6
 have Hv6 := Lib.hid hv6
 clear hv6
 have pv6 := hy6.1
 have qv6 := hy6.2
 clear hy6
 have k0 : w6.cell? ⟨B, 0, none⟩ = some (.int .u32 v4) := hB.out.cell 0
 have k1 : w6.cell? ⟨B, 1, none⟩ = some (.int .u32 v3) := hB.out.cell 1
 have k2 : w6.cell? ⟨B, 2, none⟩ = some (.int .u32 v6) := hB.out.cell 2
 have k3 : w6.cell? ⟨B, 3, none⟩ = some (.int .u32 v5) := hB.out.cell 3
 have f0 : w6.frozen? ⟨B, 0, none⟩ = false := hB.out.fr 0
 have f1 : w6.frozen? ⟨B, 1, none⟩ = false := hB.out.fr 1
 have f2 : w6.frozen? ⟨B, 2, none⟩ = false := hB.out.fr 2
 have f3 : w6.frozen? ⟨B, 3, none⟩ = false := hB.out.fr 3
 have HB := hB
 have HO := hO
 clear hB hO
 go_still_tail 9, (by kernel_rfl)
 have hx7 := xorW_w (x := v3) (y := v6) ⟨by omega, by omega⟩ ⟨by omega, by omega⟩
 refine wpStill_step (fun K hK => ?_)
 go_simp
 refine ⟨_, flip_calls (turn7 _ hx7 _), hK _ ?_⟩
 clear hK K
 refine wpStill_nil ?_
 have hy7 := rotN_w hx7 7
 obtain ⟨v7, hv7⟩ : ∃ v, v = rotN 7 (xorW v3 v6) := ⟨_, rfl⟩
 change wpList _ _ _ _ _ w6.drew
 rw [← hv7] at hy7 ⊢
 have Hv7 := Lib.hid hv7
 clear hv7 hx7
 have pv7 := hy7.1
 have qv7 := hy7.2
 clear hy7
 go_wp2
 generalize hw : (w6.setCell ⟨B, 1, none⟩ (.int .u32 v7)).drew = w7
 have hO : Hid (w.grownBy w7 (some B)) := by rw [← hw]; exact Lib.hid (only_draw (only_put HO.out 1 (.int .u32 v7)))
 have hB : Hid (Bk w7 B 64 #[.int .u32 v4, .int .u32 v7, .int .u32 v6, .int .u32 v5]) := by rw [← hw]; exact Lib.hid (HB.out.put 1 (.int .u32 v7)).draw
 clear hw k0 k1 k2 k3 f0 f1 f2 f3 HO HB
 have k0 : w7.cell? ⟨B, 0, none⟩ = some (.int .u32 v4) := hB.out.cell 0
 have k1 : w7.cell? ⟨B, 1, none⟩ = some (.int .u32 v7) := hB.out.cell 1
 have k2 : w7.cell? ⟨B, 2, none⟩ = some (.int .u32 v6) := hB.out.cell 2
 have k3 : w7.cell? ⟨B, 3, none⟩ = some (.int .u32 v5) := hB.out.cell 3
 have f0 : w7.frozen? ⟨B, 0, none⟩ = false := hB.out.fr 0
 have f1 : w7.frozen? ⟨B, 1, none⟩ = false := hB.out.fr 1
 have f2 : w7.frozen? ⟨B, 2, none⟩ = false := hB.out.fr 2
 have f3 : w7.frozen? ⟨B, 3, none⟩ = false := hB.out.fr 3
 have HB := hB
 have HO := hO
 clear hB hO
 go_end0
 have e0 := Hv0.out
 have e1 := Hv1.out
 have e2 := Hv2.out
 have e3 := Hv3.out
 have e4 := Hv4.out
 have e5 := Hv5.out
 have e6 := Hv6.out
 have e7 := Hv7.out
 refine ⟨rfl, ?_, HO.out⟩
 have h := HB.out
 have hc : (stir1 s).cells = #[.int .u32 v4, .int .u32 v7, .int .u32 v6, .int .u32 v5] := by
  subst e0; subst e1; subst e2; subst e3; subst e4; subst e5; subst e6; subst e7; rfl
 rw [hc]; exact h
end Go.Proofs.Ytopamplmpfndlaa.Sm
