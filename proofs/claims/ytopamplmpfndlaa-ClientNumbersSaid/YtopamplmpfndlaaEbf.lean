/- MPnP -/
import GoSem.Claim
import Derived.Laws.RangeAny
import Derived.Below
import Derived.Laws.RangeString
set_option maxRecDepth 100000
set_option maxHeartbeats 16000000
namespace Go.Proofs.Ytopamplmpfndlaa.Sm
open Go
def sg (s : ByteArray) : Nat → Nat → List Nat
 | 0, _ => []
 | f + 1, pos => if pos < s.size then (Utf8.decode s pos).1 :: sg s f (pos + (Utf8.decode s pos).2) else []
def signs (s : ByteArray) : List Nat := sg s s.size 0
theorem width_pos (s : ByteArray) (pos : Nat) (h : pos < s.size) : 1 ≤ (Utf8.decode s pos).2 := by
 by_cases ha : (s[pos]'h).toNat < 128
 ·rw [decode_ascii s pos h ha]
  exact Nat.le_refl _
 exact (decode_high s pos h (by omega)).2
theorem sg_end (s : ByteArray) (b pos : Nat) (h : ¬ pos < s.size) : sg s b pos = [] := by
 cases b with
 | zero => rfl
 | succ b => simp [sg, h]
def dg (r : Int) : Int :=
 if 48 ≤ r ∧ r ≤ 57 then r - 48 else if 65296 ≤ r ∧ r ≤ 65305 then r - 65296 else if 1632 ≤ r ∧ r ≤ 1641 then r - 1632
 else if 1776 ≤ r ∧ r ≤ 1785 then r - 1776 else if r = 32 ∨ r = 45 ∨ r = 160 then -2 else -1
theorem dg_cases (r : Int) : (48 ≤ r ∧ r ≤ 57 ∧ dg r = r - 48) ∨ (65296 ≤ r ∧ r ≤ 65305 ∧ dg r = r - 65296) ∨ (1632 ≤ r ∧ r ≤ 1641 ∧ dg r = r - 1632) ∨ (1776 ≤ r ∧ r ≤ 1785 ∧ dg r = r - 1776) ∨
  ((r = 32 ∨ r = 45 ∨ r = 160) ∧ dg r = -2) ∨ (¬ (r = 32 ∨ r = 45 ∨ r = 160) ∧ dg r = -1 ∧ ¬ (48 ≤ r ∧ r ≤ 57) ∧ ¬ (65296 ≤ r ∧ r ≤ 65305) ∧ ¬ (1632 ≤ r ∧ r ≤ 1641) ∧ ¬ (1776 ≤ r ∧ r ≤ 1785)) := by
 unfold dg; omega
theorem dg_range (r : Int) : -2 ≤ dg r ∧ dg r ≤ 9 := by have := dg_cases r; omega
def dgb (r : Int) : UInt8 := (48 + dg r).toNat.toUInt8
theorem dgb_val (r : Int) (h : 0 ≤ dg r) : ((dgb r).toNat : Int) = 48 + dg r := by
 have := dg_range r
 unfold dgb
 have e : (48 + dg r).toNat.toUInt8.toNat = (48 + dg r).toNat := by
  simp [Nat.toUInt8, UInt8.toNat_ofNat']
  omega
 rw [e]; omega
def nl (acc : List UInt8) : List Nat → Option (List UInt8)
 | [] => some acc
 | r :: rs => if dg r = -2 then nl acc rs else if dg r = -1 ∨ acc.length = 12 then none else nl (acc ++ [dgb r]) rs
def nrm (l : List Nat) : Option (List UInt8) := match nl [] l with
 | none => none
 | some a => if a.length < 4 then none else some a
def nrmV (l : List Nat) : Value := match nrm l with
 | none => .tuple #[.string ⟨#[]⟩, .bool false]
 | some a => .tuple #[.string ⟨a.toArray⟩, .bool true]
theorem decode_le (s : ByteArray) (pos : Nat) : (Utf8.decode s pos).1 ≤ 1114111 := by
 unfold Utf8.decode
 have h1 : ∀ k, (s.get! k).toNat < 256 := fun k => UInt8.toNat_lt _
 dsimp only
 have a0 := h1 (pos + 0)
 have a1 := h1 (pos + 1)
 have a2 := h1 (pos + 2)
 have a3 := h1 (pos + 3)
 simp only [Utf8.runeError]
 repeat' split
 all_goals (try omega)
 all_goals (rename_i hv; simp [Utf8.valid] at hv; simp; omega)
end Go.Proofs.Ytopamplmpfndlaa.Sm
