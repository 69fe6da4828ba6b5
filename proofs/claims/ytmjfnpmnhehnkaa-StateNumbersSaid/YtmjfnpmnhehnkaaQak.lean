/- Ub, Uc, SmA, SmB -/
import Derived.Test.YtmjfnpmnhehnkaaQaj
import Derived.Laws.BitsAllLaws
import Derived.Test.YtmjfnpmnhehnkaaRows
set_option maxRecDepth 100000
set_option maxHeartbeats 16000000
namespace Go.Proofs.Ytmjfnpmnhehnkaa
open Go.RowKit
theorem TB.kts {S : List Nat} {B : Nat} {w w' : World} {D : Nat} {rv : Value} {vs : List Vt} (h : TB w D rv vs) (k : Kt S B w w') (h1 : 169 ∉ S) (h2 : 36 ∉ S) (h3 : 5 ∉ S) : TB w' D rv vs :=
 ⟨k.bk h.blk h1, ⟨k.row h.row.row h2, fun i x hx => (h.row.ins i x hx).kt k h3⟩, h.len, h.srt⟩
theorem TS.kts {S : List Nat} {B B' n : Nat} {w w' : World} {D : Nat → Nat} {r : Nat → Value} {v : Nat → List Vt} (h : TS w B n D r v) (k : Kt S B' w w') (h1 : 169 ∉ S) (h2 : 36 ∉ S) (h3 : 5 ∉ S) : TS w' B n D r v :=
 ⟨fun i hi => (h.tb i hi).kts k h1 h2 h3, h.lo, h.dd, h.rr⟩
theorem TS.push {w w' : World} {B n D' : Nat} {D : Nat → Nat} {r : Nat → Value} {v : Nat → List Vt} (h : TS w B n D r v) (h' : TS w' B n D r v) (hD : w.heap.size ≤ D') (hB : B ≤ D') (ht : TB w' D' (.slice none 0 0) []) : TS w' B (n + 1) (updF D n D') (updF r n (.slice none 0 0)) (updF v n []) := by
 have hlt : ∀ i, i < n → D i < w.heap.size := fun i hi => (h.tb i hi).blk.lt
 refine ⟨fun i hi => ?_, fun i hi => ?_, fun i j hi hj hij => ?_, fun i j hi hj hij => ?_⟩
 ·by_cases e : i = n
  ·subst e; rw [updF_same, updF_same, updF_same]; exact ht
  rw [updF_ne _ _ e, updF_ne _ _ e, updF_ne _ _ e]; exact h'.tb i (by omega)
 ·by_cases e : i = n
  ·subst e; rw [updF_same]; exact hB
  rw [updF_ne _ _ e]; exact h.lo i (by omega)
 ·by_cases e : i = n
  ·subst e
   rw [updF_same, updF_ne _ _ (fun e => hij e.symm)]
   have := hlt j (by omega); omega
  rw [updF_ne _ _ e]
  by_cases e2 : j = n
  ·subst e2; rw [updF_same]; have := hlt i (by omega); omega
  rw [updF_ne _ _ e2]; exact h.dd i j (by omega) (by omega) hij
 by_cases e : i = n
 ·subst e; rw [updF_same]; exact fun g hg => by cases hg
 rw [updF_ne _ _ e]
 by_cases e2 : j = n
 ·subst e2; rw [updF_same]; exact fun g hg he => by cases he
 rw [updF_ne _ _ e2]; exact h.rr i j (by omega) (by omega) hij
def ptrs (k : Nat) (D : Nat → Nat) : List Value := (List.range 16).map fun j => if j < k then .pointer (some ⟨D j, 0, none⟩) else .pointer none
structure IM (w : World) (B M : Nat) (D : Nat → Nat) (r : Nat → Value) (v : Nat → List Vt) : Prop where
 blk : Bk w M 140 (ptrs 16 D).toArray
 ts : TS w B 16 D r v
theorem IM.ext {w w' : World} {B M : Nat} {D : Nat → Nat} {r : Nat → Value} {v : Nat → List Vt} (h : IM w B M D r v) (k : Ex w w') : IM w' B M D r v := ⟨h.blk.ext k, h.ts.ext k⟩
end Go.Proofs.Ytmjfnpmnhehnkaa
namespace Go.Proofs.Ytmjfnpmnhehnkaa
open Go.RowKit
theorem stop_ix {P : Program} {ops : Array Oper} {rest : List Oper} {d : Option Tmp} {x y : Operand} {t t2 : TypeId} {pos : String} {af : Array Edge} {g : Option (Nat × Bool)} {a : Act} {w : World} {Q : Exit → Act → World → Prop}
  (k : Stop (wpList P ops Q ({ dst := d, op := .index t x y, type := t2, pos := pos, after := af, guard := g } :: rest) a w)) : wpList P ops Q ({ dst := d, op := .index t x y, type := t2, pos := pos, after := af, guard := g } :: rest) a w := k.go
def allV (v : Nat → List Vt) (k : Nat) : List Vt := (List.range k).flatMap v
theorem allV_succ (v : Nat → List Vt) (k : Nat) : allV v (k + 1) = allV v k ++ v k := by
 unfold allV; rw [List.range_succ, List.flatMap_append]; simp
end Go.Proofs.Ytmjfnpmnhehnkaa
namespace Go.Proofs.Ytmjfnpmnhehnkaa.Sm
open Go.RowKit
def rot1 (x : Int) : Int := x * 2 % 4294967296 + x / 2147483648
def rotN : Nat → Int → Int
 | 0, x => x
 | k + 1, x => rot1 (rotN k x)
def isW (x : Int) : Prop := 0 ≤ x ∧ x < 4294967296
theorem rot1_w {x : Int} (h : isW x) : isW (rot1 x) := by unfold isW rot1 at *; omega
theorem rotN_w {x : Int} (h : isW x) : ∀ k, isW (rotN k x)
 | 0 => h
 | k + 1 => rot1_w (rotN_w h k)
theorem rot_0 {x : Int} (h : isW x) : rotN 0 x = x * 1 % 4294967296 + x / 4294967296 := by
 have e : rotN 0 x = x := rfl
 rw [e]; unfold isW at h; omega
theorem rot_1 {x : Int} (h : isW x) : rotN 1 x = x * 2 % 4294967296 + x / 2147483648 := by
 have e : rotN 1 x = rot1 (rotN 0 x) := rfl
 rw [e, rot_0 h]; unfold rot1; unfold isW at h
 obtain ⟨q, r, s, hx, h1, h2, h3, h4, h5⟩ : ∃ q r s : Int, x = 4294967296 * q + 2147483648 * r + s ∧ 0 ≤ r ∧ r ≤ 1 ∧ 0 ≤ s ∧ s < 2147483648 ∧ 0 ≤ q :=
  ⟨x / 4294967296, x % 4294967296 / 2147483648, x % 2147483648, by omega, by omega, by omega, by omega, by omega, by omega⟩
 have q6 : q < 1 := by omega
 have e1 : x * 1 % 4294967296 = 2147483648 * r + 1 * s := by omega
 have e2 : x / 4294967296 = q := by omega
 have e3 : x * 2 % 4294967296 = 2 * s := by omega
 have e4 : x / 2147483648 = 2 * q + r := by omega
 rw [e1, e2, e3, e4]
 clear e1 e2 e3 e4 hx e
 rcases (show r = 0 ∨ r = 1 by omega) with rfl | rfl <;> omega
theorem rot_2 {x : Int} (h : isW x) : rotN 2 x = x * 4 % 4294967296 + x / 1073741824 := by
 have e : rotN 2 x = rot1 (rotN 1 x) := rfl
 rw [e, rot_1 h]; unfold rot1; unfold isW at h
 obtain ⟨q, r, s, hx, h1, h2, h3, h4, h5⟩ : ∃ q r s : Int, x = 2147483648 * q + 1073741824 * r + s ∧ 0 ≤ r ∧ r ≤ 1 ∧ 0 ≤ s ∧ s < 1073741824 ∧ 0 ≤ q :=
  ⟨x / 2147483648, x % 2147483648 / 1073741824, x % 1073741824, by omega, by omega, by omega, by omega, by omega, by omega⟩
 have q6 : q < 2 := by omega
 have e1 : x * 2 % 4294967296 = 2147483648 * r + 2 * s := by omega
 have e2 : x / 2147483648 = q := by omega
 have e3 : x * 4 % 4294967296 = 4 * s := by omega
 have e4 : x / 1073741824 = 2 * q + r := by omega
 rw [e1, e2, e3, e4]
 clear e1 e2 e3 e4 hx e
 rcases (show r = 0 ∨ r = 1 by omega) with rfl | rfl <;> omega
theorem rot_3 {x : Int} (h : isW x) : rotN 3 x = x * 8 % 4294967296 + x / 536870912 := by
 have e : rotN 3 x = rot1 (rotN 2 x) := rfl
 rw [e, rot_2 h]; unfold rot1; unfold isW at h
 obtain ⟨q, r, s, hx, h1, h2, h3, h4, h5⟩ : ∃ q r s : Int, x = 1073741824 * q + 536870912 * r + s ∧ 0 ≤ r ∧ r ≤ 1 ∧ 0 ≤ s ∧ s < 536870912 ∧ 0 ≤ q :=
  ⟨x / 1073741824, x % 1073741824 / 536870912, x % 536870912, by omega, by omega, by omega, by omega, by omega, by omega⟩
 have q6 : q < 4 := by omega
 have e1 : x * 4 % 4294967296 = 2147483648 * r + 4 * s := by omega
 have e2 : x / 1073741824 = q := by omega
 have e3 : x * 8 % 4294967296 = 8 * s := by omega
 have e4 : x / 536870912 = 2 * q + r := by omega
 rw [e1, e2, e3, e4]
 clear e1 e2 e3 e4 hx e
 rcases (show r = 0 ∨ r = 1 by omega) with rfl | rfl <;> omega
theorem rot_4 {x : Int} (h : isW x) : rotN 4 x = x * 16 % 4294967296 + x / 268435456 := by
 have e : rotN 4 x = rot1 (rotN 3 x) := rfl
 rw [e, rot_3 h]; unfold rot1; unfold isW at h
 obtain ⟨q, r, s, hx, h1, h2, h3, h4, h5⟩ : ∃ q r s : Int, x = 536870912 * q + 268435456 * r + s ∧ 0 ≤ r ∧ r ≤ 1 ∧ 0 ≤ s ∧ s < 268435456 ∧ 0 ≤ q :=
  ⟨x / 536870912, x % 536870912 / 268435456, x % 268435456, by omega, by omega, by omega, by omega, by omega, by omega⟩
 have q6 : q < 8 := by omega
 have e1 : x * 8 % 4294967296 = 2147483648 * r + 8 * s := by omega
 have e2 : x / 536870912 = q := by omega
 have e3 : x * 16 % 4294967296 = 16 * s := by omega
 have e4 : x / 268435456 = 2 * q + r := by omega
 rw [e1, e2, e3, e4]
 clear e1 e2 e3 e4 hx e
 rcases (show r = 0 ∨ r = 1 by omega) with rfl | rfl <;> omega
theorem rot_5 {x : Int} (h : isW x) : rotN 5 x = x * 32 % 4294967296 + x / 134217728 := by
 have e : rotN 5 x = rot1 (rotN 4 x) := rfl
 rw [e, rot_4 h]; unfold rot1; unfold isW at h
 obtain ⟨q, r, s, hx, h1, h2, h3, h4, h5⟩ : ∃ q r s : Int, x = 268435456 * q + 134217728 * r + s ∧ 0 ≤ r ∧ r ≤ 1 ∧ 0 ≤ s ∧ s < 134217728 ∧ 0 ≤ q :=
  ⟨x / 268435456, x % 268435456 / 134217728, x % 134217728, by omega, by omega, by omega, by omega, by omega, by omega⟩
 have q6 : q < 16 := by omega
 have e1 : x * 16 % 4294967296 = 2147483648 * r + 16 * s := by omega
 have e2 : x / 268435456 = q := by omega
 have e3 : x * 32 % 4294967296 = 32 * s := by omega
 have e4 : x / 134217728 = 2 * q + r := by omega
 rw [e1, e2, e3, e4]
 clear e1 e2 e3 e4 hx e
 rcases (show r = 0 ∨ r = 1 by omega) with rfl | rfl <;> omega
theorem rot_6 {x : Int} (h : isW x) : rotN 6 x = x * 64 % 4294967296 + x / 67108864 := by
 have e : rotN 6 x = rot1 (rotN 5 x) := rfl
 rw [e, rot_5 h]; unfold rot1; unfold isW at h
 obtain ⟨q, r, s, hx, h1, h2, h3, h4, h5⟩ : ∃ q r s : Int, x = 134217728 * q + 67108864 * r + s ∧ 0 ≤ r ∧ r ≤ 1 ∧ 0 ≤ s ∧ s < 67108864 ∧ 0 ≤ q :=
  ⟨x / 134217728, x % 134217728 / 67108864, x % 67108864, by omega, by omega, by omega, by omega, by omega, by omega⟩
 have q6 : q < 32 := by omega
 have e1 : x * 32 % 4294967296 = 2147483648 * r + 32 * s := by omega
 have e2 : x / 134217728 = q := by omega
 have e3 : x * 64 % 4294967296 = 64 * s := by omega
 have e4 : x / 67108864 = 2 * q + r := by omega
 rw [e1, e2, e3, e4]
 clear e1 e2 e3 e4 hx e
 rcases (show r = 0 ∨ r = 1 by omega) with rfl | rfl <;> omega
theorem rot_7 {x : Int} (h : isW x) : rotN 7 x = x * 128 % 4294967296 + x / 33554432 := by
 have e : rotN 7 x = rot1 (rotN 6 x) := rfl
 rw [e, rot_6 h]; unfold rot1; unfold isW at h
 obtain ⟨q, r, s, hx, h1, h2, h3, h4, h5⟩ : ∃ q r s : Int, x = 67108864 * q + 33554432 * r + s ∧ 0 ≤ r ∧ r ≤ 1 ∧ 0 ≤ s ∧ s < 33554432 ∧ 0 ≤ q :=
  ⟨x / 67108864, x % 67108864 / 33554432, x % 33554432, by omega, by omega, by omega, by omega, by omega, by omega⟩
 have q6 : q < 64 := by omega
 have e1 : x * 64 % 4294967296 = 2147483648 * r + 64 * s := by omega
 have e2 : x / 67108864 = q := by omega
 have e3 : x * 128 % 4294967296 = 128 * s := by omega
 have e4 : x / 33554432 = 2 * q + r := by omega
 rw [e1, e2, e3, e4]
 clear e1 e2 e3 e4 hx e
 rcases (show r = 0 ∨ r = 1 by omega) with rfl | rfl <;> omega
theorem rot_8 {x : Int} (h : isW x) : rotN 8 x = x * 256 % 4294967296 + x / 16777216 := by
 have e : rotN 8 x = rot1 (rotN 7 x) := rfl
 rw [e, rot_7 h]; unfold rot1; unfold isW at h
 obtain ⟨q, r, s, hx, h1, h2, h3, h4, h5⟩ : ∃ q r s : Int, x = 33554432 * q + 16777216 * r + s ∧ 0 ≤ r ∧ r ≤ 1 ∧ 0 ≤ s ∧ s < 16777216 ∧ 0 ≤ q :=
  ⟨x / 33554432, x % 33554432 / 16777216, x % 16777216, by omega, by omega, by omega, by omega, by omega, by omega⟩
 have q6 : q < 128 := by omega
 have e1 : x * 128 % 4294967296 = 2147483648 * r + 128 * s := by omega
 have e2 : x / 33554432 = q := by omega
 have e3 : x * 256 % 4294967296 = 256 * s := by omega
 have e4 : x / 16777216 = 2 * q + r := by omega
 rw [e1, e2, e3, e4]
 clear e1 e2 e3 e4 hx e
 rcases (show r = 0 ∨ r = 1 by omega) with rfl | rfl <;> omega
theorem rot_9 {x : Int} (h : isW x) : rotN 9 x = x * 512 % 4294967296 + x / 8388608 := by
 have e : rotN 9 x = rot1 (rotN 8 x) := rfl
 rw [e, rot_8 h]; unfold rot1; unfold isW at h
 obtain ⟨q, r, s, hx, h1, h2, h3, h4, h5⟩ : ∃ q r s : Int, x = 16777216 * q + 8388608 * r + s ∧ 0 ≤ r ∧ r ≤ 1 ∧ 0 ≤ s ∧ s < 8388608 ∧ 0 ≤ q :=
  ⟨x / 16777216, x % 16777216 / 8388608, x % 8388608, by omega, by omega, by omega, by omega, by omega, by omega⟩
 have q6 : q < 256 := by omega
 have e1 : x * 256 % 4294967296 = 2147483648 * r + 256 * s := by omega
 have e2 : x / 16777216 = q := by omega
 have e3 : x * 512 % 4294967296 = 512 * s := by omega
 have e4 : x / 8388608 = 2 * q + r := by omega
 rw [e1, e2, e3, e4]
 clear e1 e2 e3 e4 hx e
 rcases (show r = 0 ∨ r = 1 by omega) with rfl | rfl <;> omega
theorem rot_10 {x : Int} (h : isW x) : rotN 10 x = x * 1024 % 4294967296 + x / 4194304 := by
 have e : rotN 10 x = rot1 (rotN 9 x) := rfl
 rw [e, rot_9 h]; unfold rot1; unfold isW at h
 obtain ⟨q, r, s, hx, h1, h2, h3, h4, h5⟩ : ∃ q r s : Int, x = 8388608 * q + 4194304 * r + s ∧ 0 ≤ r ∧ r ≤ 1 ∧ 0 ≤ s ∧ s < 4194304 ∧ 0 ≤ q :=
  ⟨x / 8388608, x % 8388608 / 4194304, x % 4194304, by omega, by omega, by omega, by omega, by omega, by omega⟩
 have q6 : q < 512 := by omega
 have e1 : x * 512 % 4294967296 = 2147483648 * r + 512 * s := by omega
 have e2 : x / 8388608 = q := by omega
 have e3 : x * 1024 % 4294967296 = 1024 * s := by omega
 have e4 : x / 4194304 = 2 * q + r := by omega
 rw [e1, e2, e3, e4]
 clear e1 e2 e3 e4 hx e
 rcases (show r = 0 ∨ r = 1 by omega) with rfl | rfl <;> omega
theorem rot_11 {x : Int} (h : isW x) : rotN 11 x = x * 2048 % 4294967296 + x / 2097152 := by
 have e : rotN 11 x = rot1 (rotN 10 x) := rfl
 rw [e, rot_10 h]; unfold rot1; unfold isW at h
 obtain ⟨q, r, s, hx, h1, h2, h3, h4, h5⟩ : ∃ q r s : Int, x = 4194304 * q + 2097152 * r + s ∧ 0 ≤ r ∧ r ≤ 1 ∧ 0 ≤ s ∧ s < 2097152 ∧ 0 ≤ q :=
  ⟨x / 4194304, x % 4194304 / 2097152, x % 2097152, by omega, by omega, by omega, by omega, by omega, by omega⟩
 have q6 : q < 1024 := by omega
 have e1 : x * 1024 % 4294967296 = 2147483648 * r + 1024 * s := by omega
 have e2 : x / 4194304 = q := by omega
 have e3 : x * 2048 % 4294967296 = 2048 * s := by omega
 have e4 : x / 2097152 = 2 * q + r := by omega
 rw [e1, e2, e3, e4]
 clear e1 e2 e3 e4 hx e
 rcases (show r = 0 ∨ r = 1 by omega) with rfl | rfl <;> omega
theorem rot_12 {x : Int} (h : isW x) : rotN 12 x = x * 4096 % 4294967296 + x / 1048576 := by
 have e : rotN 12 x = rot1 (rotN 11 x) := rfl
 rw [e, rot_11 h]; unfold rot1; unfold isW at h
 obtain ⟨q, r, s, hx, h1, h2, h3, h4, h5⟩ : ∃ q r s : Int, x = 2097152 * q + 1048576 * r + s ∧ 0 ≤ r ∧ r ≤ 1 ∧ 0 ≤ s ∧ s < 1048576 ∧ 0 ≤ q :=
  ⟨x / 2097152, x % 2097152 / 1048576, x % 1048576, by omega, by omega, by omega, by omega, by omega, by omega⟩
 have q6 : q < 2048 := by omega
 have e1 : x * 2048 % 4294967296 = 2147483648 * r + 2048 * s := by omega
 have e2 : x / 2097152 = q := by omega
 have e3 : x * 4096 % 4294967296 = 4096 * s := by omega
 have e4 : x / 1048576 = 2 * q + r := by omega
 rw [e1, e2, e3, e4]
 clear e1 e2 e3 e4 hx e
 rcases (show r = 0 ∨ r = 1 by omega) with rfl | rfl <;> omega
theorem rot_13 {x : Int} (h : isW x) : rotN 13 x = x * 8192 % 4294967296 + x / 524288 := by
 have e : rotN 13 x = rot1 (rotN 12 x) := rfl
 rw [e, rot_12 h]; unfold rot1; unfold isW at h
 obtain ⟨q, r, s, hx, h1, h2, h3, h4, h5⟩ : ∃ q r s : Int, x = 1048576 * q + 524288 * r + s ∧ 0 ≤ r ∧ r ≤ 1 ∧ 0 ≤ s ∧ s < 524288 ∧ 0 ≤ q :=
  ⟨x / 1048576, x % 1048576 / 524288, x % 524288, by omega, by omega, by omega, by omega, by omega, by omega⟩
 have q6 : q < 4096 := by omega
 have e1 : x * 4096 % 4294967296 = 2147483648 * r + 4096 * s := by omega
 have e2 : x / 1048576 = q := by omega
 have e3 : x * 8192 % 4294967296 = 8192 * s := by omega
 have e4 : x / 524288 = 2 * q + r := by omega
 rw [e1, e2, e3, e4]
 clear e1 e2 e3 e4 hx e
 rcases (show r = 0 ∨ r = 1 by omega) with rfl | rfl <;> omega
theorem rot_14 {x : Int} (h : isW x) : rotN 14 x = x * 16384 % 4294967296 + x / 262144 := by
 have e : rotN 14 x = rot1 (rotN 13 x) := rfl
 rw [e, rot_13 h]; unfold rot1; unfold isW at h
 obtain ⟨q, r, s, hx, h1, h2, h3, h4, h5⟩ : ∃ q r s : Int, x = 524288 * q + 262144 * r + s ∧ 0 ≤ r ∧ r ≤ 1 ∧ 0 ≤ s ∧ s < 262144 ∧ 0 ≤ q :=
  ⟨x / 524288, x % 524288 / 262144, x % 262144, by omega, by omega, by omega, by omega, by omega, by omega⟩
 have q6 : q < 8192 := by omega
 have e1 : x * 8192 % 4294967296 = 2147483648 * r + 8192 * s := by omega
 have e2 : x / 524288 = q := by omega
 have e3 : x * 16384 % 4294967296 = 16384 * s := by omega
 have e4 : x / 262144 = 2 * q + r := by omega
 rw [e1, e2, e3, e4]
 clear e1 e2 e3 e4 hx e
 rcases (show r = 0 ∨ r = 1 by omega) with rfl | rfl <;> omega
theorem rot_15 {x : Int} (h : isW x) : rotN 15 x = x * 32768 % 4294967296 + x / 131072 := by
 have e : rotN 15 x = rot1 (rotN 14 x) := rfl
 rw [e, rot_14 h]; unfold rot1; unfold isW at h
 obtain ⟨q, r, s, hx, h1, h2, h3, h4, h5⟩ : ∃ q r s : Int, x = 262144 * q + 131072 * r + s ∧ 0 ≤ r ∧ r ≤ 1 ∧ 0 ≤ s ∧ s < 131072 ∧ 0 ≤ q :=
  ⟨x / 262144, x % 262144 / 131072, x % 131072, by omega, by omega, by omega, by omega, by omega, by omega⟩
 have q6 : q < 16384 := by omega
 have e1 : x * 16384 % 4294967296 = 2147483648 * r + 16384 * s := by omega
 have e2 : x / 262144 = q := by omega
 have e3 : x * 32768 % 4294967296 = 32768 * s := by omega
 have e4 : x / 131072 = 2 * q + r := by omega
 rw [e1, e2, e3, e4]
 clear e1 e2 e3 e4 hx e
 rcases (show r = 0 ∨ r = 1 by omega) with rfl | rfl <;> omega
theorem rot_16 {x : Int} (h : isW x) : rotN 16 x = x * 65536 % 4294967296 + x / 65536 := by
 have e : rotN 16 x = rot1 (rotN 15 x) := rfl
 rw [e, rot_15 h]; unfold rot1; unfold isW at h
 obtain ⟨q, r, s, hx, h1, h2, h3, h4, h5⟩ : ∃ q r s : Int, x = 131072 * q + 65536 * r + s ∧ 0 ≤ r ∧ r ≤ 1 ∧ 0 ≤ s ∧ s < 65536 ∧ 0 ≤ q :=
  ⟨x / 131072, x % 131072 / 65536, x % 65536, by omega, by omega, by omega, by omega, by omega, by omega⟩
 have q6 : q < 32768 := by omega
 have e1 : x * 32768 % 4294967296 = 2147483648 * r + 32768 * s := by omega
 have e2 : x / 131072 = q := by omega
 have e3 : x * 65536 % 4294967296 = 65536 * s := by omega
 have e4 : x / 65536 = 2 * q + r := by omega
 rw [e1, e2, e3, e4]
 clear e1 e2 e3 e4 hx e
 rcases (show r = 0 ∨ r = 1 by omega) with rfl | rfl <;> omega
end Go.Proofs.Ytmjfnpmnhehnkaa.Sm
namespace Go.Proofs.Ytmjfnpmnhehnkaa.Sm
open Go.RowKit
theorem smret {a b : Value} (h : a = b) : Ending.returned a = Ending.returned b := by rw [h]
theorem or_join (i : Nat) (a b : Int) (ha : 0 ≤ a) (ha' : a < 4294967296) (hb : 0 ≤ b) (hb' : b < 4294967296) (h1 : a.toNat % 2 ^ i = 0) (h2 : b.toNat < 2 ^ i) : bits .or .u32 a b = a + b := by
 rw [u32_or a b ha ha' hb hb', nat_join i _ _ h1 h2]; omega
theorem rol16 (x : Int) (h : isW x) (w : World) :
  Calls Try.prog 143 #[.int .u32 x, .int .i64 16] w fun e w' => e = .returned (.int .u32 (rotN 16 x)) ∧ w = w' := by
 have h0 : 0 ≤ x := h.1
 have h1 : x < 4294967296 := h.2
 go_enter Try.func143, Try.ntmps143
 have hb : bits BinOp.and IntKind.u64 16 31 = 16 := by decide
 go_wp2
 go_ret
 refine ⟨smret (congrArg (Value.int .u32) ?_), rfl⟩
 clear hb
 rw [or_join 16 _ _ (by omega) (by omega) (by omega) (by omega) (by omega) (by omega), rot_16 h]
theorem rol12 (x : Int) (h : isW x) (w : World) :
  Calls Try.prog 143 #[.int .u32 x, .int .i64 12] w fun e w' => e = .returned (.int .u32 (rotN 12 x)) ∧ w = w' := by
 have h0 : 0 ≤ x := h.1
 have h1 : x < 4294967296 := h.2
 go_enter Try.func143, Try.ntmps143
 have hb : bits BinOp.and IntKind.u64 12 31 = 12 := by decide
 go_wp2
 go_ret
 refine ⟨smret (congrArg (Value.int .u32) ?_), rfl⟩
 clear hb
 rw [or_join 12 _ _ (by omega) (by omega) (by omega) (by omega) (by omega) (by omega), rot_12 h]
theorem rol8 (x : Int) (h : isW x) (w : World) :
  Calls Try.prog 143 #[.int .u32 x, .int .i64 8] w fun e w' => e = .returned (.int .u32 (rotN 8 x)) ∧ w = w' := by
 have h0 : 0 ≤ x := h.1
 have h1 : x < 4294967296 := h.2
 go_enter Try.func143, Try.ntmps143
 have hb : bits BinOp.and IntKind.u64 8 31 = 8 := by decide
 go_wp2
 go_ret
 refine ⟨smret (congrArg (Value.int .u32) ?_), rfl⟩
 clear hb
 rw [or_join 8 _ _ (by omega) (by omega) (by omega) (by omega) (by omega) (by omega), rot_8 h]
theorem rol7 (x : Int) (h : isW x) (w : World) :
  Calls Try.prog 143 #[.int .u32 x, .int .i64 7] w fun e w' => e = .returned (.int .u32 (rotN 7 x)) ∧ w = w' := by
 have h0 : 0 ≤ x := h.1
 have h1 : x < 4294967296 := h.2
 go_enter Try.func143, Try.ntmps143
 have hb : bits BinOp.and IntKind.u64 7 31 = 7 := by decide
 go_wp2
 go_ret
 refine ⟨smret (congrArg (Value.int .u32) ?_), rfl⟩
 clear hb
 rw [or_join 7 _ _ (by omega) (by omega) (by omega) (by omega) (by omega) (by omega), rot_7 h]
theorem turn_any (x : Int) (h : isW x) (k : Nat) (hk : k ≤ 16) (w : World) :
  Calls Try.prog 136 #[.int .u32 x, .int .i64 k] w fun e w' => e = .returned (.int .u32 (rotN k x)) ∧ w = w' := by
 go_enter Try.func136, Try.ntmps136
 go_wp2
 go_loop [0, 1] (fun a i => ∃ j : Nat, j ≤ k ∧ i = .int .i64 j ∧ a = .int .u32 (rotN (k - j) x)) (fun _ i => (intOf i).toNat)
 case atStart => exact ⟨k, Nat.le_refl _, rfl, by rw [Nat.sub_self]; rfl⟩
 obtain ⟨j, hj, rfl, rfl⟩ := hrel
 have hw := rotN_w h (k - j)
 obtain ⟨y, hy⟩ : ∃ y, y = rotN (k - j) x := ⟨_, rfl⟩
 rw [← hy] at hw ⊢
 have HY := Lib.hid hy
 clear hy
 have hw0 := hw.1
 have hw1 := hw.2
 by_cases hlt : 0 < j
 ·go_wp2
  go_round
  case rel =>
   refine ⟨j - 1, by omega, by rw [show (j : Int) - 1 = ((j - 1 : Nat) : Int) by omega], ?_⟩
   rw [or_join 1 _ _ (by omega) (by omega) (by omega) (by omega) (by omega) (by omega), HY.out, show k - (j - 1) = (k - j) + 1 by omega]
   rfl
  case measure => simp [intOf]; omega
 obtain rfl : j = 0 := by omega
 go_wp2
 go_ret
 exact ⟨smret (congrArg (Value.int .u32) HY.out), rfl⟩
end Go.Proofs.Ytmjfnpmnhehnkaa.Sm
