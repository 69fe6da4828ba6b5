/- The signs of a text, as the model's decoder steps; plain lemmas. -/
import GoSem.Claim
import Derived.Laws.RangeAny
import Derived.Below
import Derived.Laws.RangeString
namespace Go.Proofs.Ytkneeocicbadjaa
open Go
/-- the signs of s from place pos on, at most so many -/
def sg (s : ByteArray) : Nat → Nat → List Nat
  | 0, _ => []
  | f + 1, pos => if pos < s.size then (Utf8.decode s pos).1 :: sg s f (pos + (Utf8.decode s pos).2) else []
def signs (s : ByteArray) : List Nat := sg s s.size 0
theorem width_pos (s : ByteArray) (pos : Nat) (h : pos < s.size) : 1 ≤ (Utf8.decode s pos).2 := by
  by_cases ha : (s[pos]'h).toNat < 128
  · rw [decode_ascii s pos h ha]
    exact Nat.le_refl _
  · exact (decode_high s pos h (by omega)).2
theorem sg_end (s : ByteArray) (b pos : Nat) (h : ¬ pos < s.size) : sg s b pos = [] := by
  cases b with
  | zero => rfl
  | succ b => simp [sg, h]
theorem sg_length (s : ByteArray) : ∀ (b pos : Nat), (sg s b pos).length ≤ s.size - pos
  | 0, _ => by simp [sg]
  | b + 1, pos => by
    unfold sg
    split
    · rename_i h
      have := sg_length s b (pos + (Utf8.decode s pos).2)
      have := width_pos s pos h
      simp
      omega
    · simp
/-- one more step of fuel makes no difference when there is enough -/
theorem sg_fuel (s : ByteArray) : ∀ (b b' pos : Nat), s.size ≤ pos + b → s.size ≤ pos + b' → sg s b pos = sg s b' pos
  | 0, b', pos, h, _ => by rw [sg_end s b' pos (by omega)]; rfl
  | b + 1, 0, pos, _, h => by rw [sg_end s (b + 1) pos (by omega)]; rfl
  | b + 1, b' + 1, pos, h, h' => by
    unfold sg
    split
    · rename_i hp
      have := width_pos s pos hp
      rw [sg_fuel s b b' (pos + (Utf8.decode s pos).2) (by omega) (by omega)]
    · rfl

/-- which digit a sign is; -1 none; -2 passed by -/
def dg (r : Int) : Int :=
  if 48 ≤ r ∧ r ≤ 57 then r - 48 else if 65296 ≤ r ∧ r ≤ 65305 then r - 65296 else if 1632 ≤ r ∧ r ≤ 1641 then r - 1632
  else if 1776 ≤ r ∧ r ≤ 1785 then r - 1776 else if r = 32 ∨ r = 45 ∨ r = 160 then -2 else -1
theorem dg_cases (r : Int) : (48 ≤ r ∧ r ≤ 57 ∧ dg r = r - 48) ∨ (65296 ≤ r ∧ r ≤ 65305 ∧ dg r = r - 65296) ∨ (1632 ≤ r ∧ r ≤ 1641 ∧ dg r = r - 1632) ∨ (1776 ≤ r ∧ r ≤ 1785 ∧ dg r = r - 1776) ∨
    ((r = 32 ∨ r = 45 ∨ r = 160) ∧ dg r = -2) ∨ (¬ (r = 32 ∨ r = 45 ∨ r = 160) ∧ dg r = -1 ∧ ¬ (48 ≤ r ∧ r ≤ 57) ∧ ¬ (65296 ≤ r ∧ r ≤ 65305) ∧ ¬ (1632 ≤ r ∧ r ≤ 1641) ∧ ¬ (1776 ≤ r ∧ r ≤ 1785)) := by
  unfold dg; omega
theorem dg_range (r : Int) : -2 ≤ dg r ∧ dg r ≤ 9 := by have := dg_cases r; omega
/-- the byte of a digit -/
def dgb (r : Int) : UInt8 := (48 + dg r).toNat.toUInt8
theorem dgb_val (r : Int) (h : 0 ≤ dg r) : ((dgb r).toNat : Int) = 48 + dg r := by
  have := dg_range r
  unfold dgb
  have e : (48 + dg r).toNat.toUInt8.toNat = (48 + dg r).toNat := by
    simp [Nat.toUInt8, UInt8.toNat_ofNat']
    omega
  rw [e]; omega
/-- what the signs make, behind the digits acc; no more than twelve -/
def nl (acc : List UInt8) : List Nat → Option (List UInt8)
  | [] => some acc
  | r :: rs => if dg r = -2 then nl acc rs else if dg r = -1 ∨ acc.length = 12 then none else nl (acc ++ [dgb r]) rs
def nrm (l : List Nat) : Option (List UInt8) := match nl [] l with
  | none => none
  | some a => if a.length < 4 then none else some a
def nrmV (l : List Nat) : Value := match nrm l with
  | none => .tuple #[.string ⟨#[]⟩, .bool false]
  | some a => .tuple #[.string ⟨a.toArray⟩, .bool true]
theorem decode_le (s : ByteArray) (pos : Nat) : (Utf8.decode s pos).1 ≤ 1114111 := by
  unfold Utf8.decode
  have h1 : ∀ k, (s.get! k).toNat < 256 := fun k => UInt8.toNat_lt _
  dsimp only
  have a0 := h1 (pos + 0)
  have a1 := h1 (pos + 1)
  have a2 := h1 (pos + 2)
  have a3 := h1 (pos + 3)
  simp only [Utf8.runeError]
  repeat' split
  all_goals (try omega)
  all_goals (rename_i hv; simp [Utf8.valid] at hv; simp; omega)

/-- the byte at a place, as a number -/
def bat (s : ByteArray) (j : Nat) : Int := if h : j < s.size then ((s[j]'h).toNat : Int) else 0
theorem bat_eq (s : ByteArray) (j : Nat) (h : j < s.size) : bat s j = ((s[j]'h).toNat : Int) := by unfold bat; rw [dif_pos h]
theorem bat_range (s : ByteArray) (j : Nat) : 0 ≤ bat s j ∧ bat s j ≤ 255 := by
  unfold bat
  split
  · have := UInt8.toNat_lt (s[j]'(by assumption)); omega
  · omega
def isD (s : ByteArray) (j : Nat) : Bool := decide (48 ≤ bat s j) && decide (bat s j ≤ 57)
/-- all of the first k bytes are digits -/
def digs (s : ByteArray) : Nat → Bool
  | 0 => true
  | k + 1 => digs s k && isD s k
/-- each of the first k bytes is the one ahead of it and d -/
def stp (s : ByteArray) (d : Int) : Nat → Bool
  | 0 => true
  | 1 => true
  | k + 2 => stp s d (k + 1) && (bat s (k + 1) - bat s k == d)
def weakB (s : ByteArray) : Bool :=
  decide (4 ≤ s.size) && decide (s.size ≤ 12) && digs s s.size && (stp s 0 s.size || stp s 1 s.size || stp s (-1) s.size)
theorem digs_iff (s : ByteArray) (k : Nat) : digs s k = true ↔ ∀ j, j < k → 48 ≤ bat s j ∧ bat s j ≤ 57 := by
  induction k with
  | zero => simp [digs]
  | succ k ih =>
    simp only [digs, isD, Bool.and_eq_true, decide_eq_true_eq, ih]
    constructor
    · rintro ⟨h, h2⟩ j hj
      by_cases e : j = k
      · subst e; exact h2
      · exact h j (by omega)
    · intro h
      exact ⟨fun j hj => h j (by omega), h k (by omega)⟩
theorem stp_iff (s : ByteArray) (d : Int) (k : Nat) : stp s d k = true ↔ ∀ j, j + 1 < k → bat s (j + 1) - bat s j = d := by
  induction k with
  | zero => simp [stp]
  | succ k ih =>
    cases k with
    | zero => simp [stp]
    | succ k =>
      simp only [stp, Bool.and_eq_true, beq_iff_eq, ih]
      constructor
      · rintro ⟨h, h2⟩ j hj
        by_cases e : j = k
        · subst e; exact h2
        · exact h j (by omega)
      · intro h
        exact ⟨fun j hj => h j (by omega), h k (by omega)⟩
theorem weak_short (s : ByteArray) (h : s.size < 4) : weakB s = false := by simp [weakB]; omega
theorem weak_long (s : ByteArray) (h : 12 < s.size) : weakB s = false := by simp [weakB]; omega
theorem weak_nodig (s : ByteArray) (k : Nat) (hk : k < s.size) (h : ¬ (48 ≤ bat s k ∧ bat s k ≤ 57)) : weakB s = false := by
  have : digs s s.size = false := by
    rw [Bool.eq_false_iff]; intro e
    exact h ((digs_iff s _).1 e k hk)
  simp [weakB, this]
theorem weak_of (s : ByteArray) (h4 : 4 ≤ s.size) (h12 : s.size ≤ 12) (hd : digs s s.size = true) : weakB s = (stp s 0 s.size || stp s 1 s.size || stp s (-1) s.size) := by
  simp [weakB, h4, h12, hd]
/-- steps of bytes, modulo 256, as the code takes them -/
theorem weak_step (s : ByteArray) (h4 : 4 ≤ s.size) (h12 : s.size ≤ 12) (hd : digs s s.size = true) (st : Int) (hst : st = (bat s 1 - bat s 0) % 256) :
    (¬ (st = 0 ∨ st = 1 ∨ st = 255) → weakB s = false) ∧
    (∀ k, 1 ≤ k → k < s.size → (bat s k - bat s (k - 1)) % 256 ≠ st → weakB s = false) ∧
    ((st = 0 ∨ st = 1 ∨ st = 255) → (∀ k, 1 ≤ k → k < s.size → (bat s k - bat s (k - 1)) % 256 = st) → weakB s = true) := by
  have hr := (digs_iff s _).1 hd
  have r0 := hr 0 (by omega)
  have r1 := hr 1 (by omega)
  rw [weak_of s h4 h12 hd]
  have no : ∀ d : Int, (d = 0 ∨ d = 1 ∨ d = -1) → stp s d s.size = true → st = d % 256 ∧ ∀ k, 1 ≤ k → k < s.size → (bat s k - bat s (k - 1)) % 256 = st := by
    intro d hd' e
    have h := (stp_iff s d _).1 e
    have h0 := h 0 (by omega)
    simp at h0
    refine ⟨by rw [hst, h0], fun k hk hk2 => ?_⟩
    have hk' := h (k - 1) (by omega)
    rw [show k - 1 + 1 = k from by omega] at hk'
    rw [hk', hst, h0]
  refine ⟨fun h => ?_, fun k hk hk2 hne => ?_, fun h hall => ?_⟩
  · rw [Bool.eq_false_iff]
    intro e
    simp only [Bool.or_eq_true] at e
    rcases e with (e | e) | e
    · have := (no 0 (by omega) e).1; omega
    · have := (no 1 (by omega) e).1; omega
    · have := (no (-1) (by omega) e).1; omega
  · rw [Bool.eq_false_iff]
    intro e
    simp only [Bool.or_eq_true] at e
    rcases e with (e | e) | e
    · exact hne ((no 0 (by omega) e).2 k hk hk2)
    · exact hne ((no 1 (by omega) e).2 k hk hk2)
    · exact hne ((no (-1) (by omega) e).2 k hk hk2)
  · have yes : ∀ d : Int, (d = 0 ∨ d = 1 ∨ d = -1) → st = d % 256 → stp s d s.size = true := by
      intro d hd' e
      rw [stp_iff]
      intro j hj
      have h1 := hall (j + 1) (by omega) hj
      rw [show j + 1 - 1 = j from by omega] at h1
      have a := hr j (by omega)
      have b := hr (j + 1) hj
      omega
    rcases h with h | h | h
    · simp [yes 0 (by omega) (by omega)]
    · simp [yes 1 (by omega) (by omega)]
    · simp [yes (-1) (by omega) (by omega)]
end Go.Proofs.Ytkneeocicbadjaa
