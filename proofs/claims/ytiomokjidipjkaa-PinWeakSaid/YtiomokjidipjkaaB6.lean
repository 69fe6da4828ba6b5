/- the law PinWeak, walked -/
import Derived.Test.YtiomokjidipjkaaB3
namespace Go.Proofs.Ytiomokjidipjkaa
open Go.RowKit
theorem tmod_bd (k : Int) (n : Int) (h : 0 < n) : -n < k.tmod n ∧ k.tmod n < n := by
  have h1 := Int.tmod_lt_of_pos k h
  have h2 := Int.lt_tmod_of_pos k h
  omega
theorem turned_not_weak (s s' : ByteArray) (k idx : Nat) (c st : Int) (hst : st = 0 ∨ st = 1 ∨ st = -1) (h1 : s.size = k) (h2 : s'.size = k) (h5 : 5 ≤ k) (hi : idx < k)
    (ha : ∀ i, i < k → bat s i = c + st * i) (hb : ∀ i, i < k → i ≠ idx → bat s' i = bat s i) (hne : bat s' idx ≠ bat s idx) : weakB s' = false := by
  rw [Bool.eq_false_iff]
  intro hw
  simp only [weakB, Bool.and_eq_true, Bool.or_eq_true, decide_eq_true_eq] at hw
  obtain ⟨_, hw⟩ := hw
  have no : ∀ d, stp s' d s'.size = true → False := by
    intro d hd
    have h := (stp_iff s' d _).1 hd
    rw [h2] at h
    have st_eq : d = st := by
      by_cases h2' : 2 ≤ idx
      · have e := h 0 (by omega)
        rw [hb 0 (by omega) (by omega), hb (0 + 1) (by omega) (by omega), ha 0 (by omega), ha (0 + 1) (by omega)] at e
        rcases hst with rfl | rfl | rfl <;> omega
      · have e := h 3 (by omega)
        rw [hb 3 (by omega) (by omega), hb (3 + 1) (by omega) (by omega), ha 3 (by omega), ha (3 + 1) (by omega)] at e
        rcases hst with rfl | rfl | rfl <;> omega
    subst st_eq
    by_cases h0 : idx = 0
    · subst h0
      have e := h 0 (by omega)
      rw [hb (0 + 1) (by omega) (by omega), ha (0 + 1) (by omega)] at e
      rw [ha 0 (by omega)] at hne
      rcases hst with rfl | rfl | rfl <;> omega
    · obtain ⟨j, rfl⟩ : ∃ j, idx = j + 1 := ⟨idx - 1, by omega⟩
      have e := h j (by omega)
      rw [hb j (by omega) (by omega), ha j (by omega)] at e
      rw [ha (j + 1) (by omega)] at hne
      rcases hst with rfl | rfl | rfl <;> omega
  rcases hw with (h | h) | h <;> exact no _ h
theorem bat_list (l : List UInt8) (i : Nat) (h : i < l.length) : bat ⟨l.toArray⟩ i = (l[i].toNat : Int) := by
  rw [bat_eq _ _ (by simpa [ByteArray.size] using h)]; rfl
theorem row_weak (l : List UInt8) (c st : Int) (hst : st = 0 ∨ st = 1 ∨ st = -1) (h5 : 5 ≤ l.length) (h12 : l.length ≤ 12) (ha : ∀ i, i < l.length → bat ⟨l.toArray⟩ i = c + st * i) (hd : ∀ i, i < l.length → 48 ≤ c + st * (i : Int) ∧ c + st * (i : Int) ≤ 57) : weakB ⟨l.toArray⟩ = true := by
  have hz : (⟨l.toArray⟩ : ByteArray).size = l.length := by simp [ByteArray.size]
  have hdg : digs ⟨l.toArray⟩ l.length = true := by
    rw [digs_iff]; intro j hj; rw [ha j hj]; exact hd j hj
  have hs : stp ⟨l.toArray⟩ st l.length = true := by
    rw [stp_iff]; intro j hj
    rw [ha j (by omega), ha (j + 1) hj]
    rcases hst with rfl | rfl | rfl <;> omega
  have h4 : 4 ≤ (⟨l.toArray⟩ : ByteArray).size := by omega
  have h12' : (⟨l.toArray⟩ : ByteArray).size ≤ 12 := by omega
  have hdg' : digs ⟨l.toArray⟩ (⟨l.toArray⟩ : ByteArray).size = true := by rw [hz]; exact hdg
  rw [weak_of ⟨l.toArray⟩ h4 h12' hdg', hz]
  rcases hst with rfl | rfl | rfl <;> simp [hs]
def rowB (f st : Int) (k : Nat) : List UInt8 := (List.range k).map fun (i : Nat) => (48 + f + st * (i : Int)).toNat.toUInt8
theorem rowB_length (f st : Int) (k : Nat) : (rowB f st k).length = k := by simp [rowB]
theorem rowB_at (f st : Int) (k i : Nat) (h : i < k) (h0 : 0 ≤ 48 + f + st * (i : Int)) (h1 : 48 + f + st * (i : Int) < 256) : (((rowB f st k)[i]'(by rw [rowB_length]; exact h)).toNat : Int) = 48 + f + st * (i : Int) := by
  have : ((rowB f st k)[i]'(by rw [rowB_length]; exact h)) = (48 + f + st * (i : Int)).toNat.toUInt8 := by simp [rowB]
  rw [this]
  have e : (48 + f + st * (i : Int)).toNat.toUInt8.toNat = (48 + f + st * (i : Int)).toNat := by
    simp [Nat.toUInt8, UInt8.toNat_ofNat']; omega
  rw [e]; omega
/-- the first j bytes are laid -/
def partB (f st : Int) (k j : Nat) : List UInt8 := (rowB f st k).take j ++ List.replicate (k - j) 0
theorem partB_length (f st : Int) (k j : Nat) (h : j ≤ k) : (partB f st k j).length = k := by simp [partB, rowB_length]; omega
theorem partB_set (f st : Int) (k j : Nat) (h : j < k) : (partB f st k j).set j (48 + f + st * (j : Int)).toNat.toUInt8 = partB f st k (j + 1) := by
  have hl : (rowB f st k).length = k := rowB_length f st k
  apply List.ext_getElem
  · simp [partB_length f st k j (by omega), partB_length f st k (j + 1) (by omega)]
  · intro i h1 h2
    simp only [List.length_set, partB_length f st k j (by omega)] at h1
    simp only [List.getElem_set, partB, List.getElem_append, List.length_take, hl, List.getElem_take, List.getElem_replicate]
    by_cases e : j = i
    · subst e
      simp [show min (j + 1) k = j + 1 by omega, rowB]
    · by_cases e2 : i < j
      · simp [e, show min j k = j by omega, show min (j + 1) k = j + 1 by omega, e2, show i < j + 1 by omega]
      · simp [e, show min j k = j by omega, show min (j + 1) k = j + 1 by omega, e2, show ¬ i < j + 1 by omega]
theorem partB_all (f st : Int) (k : Nat) : partB f st k k = rowB f st k := by
  have hl : (rowB f st k).length = k := rowB_length f st k
  simp [partB, List.take_of_length_le, hl]
end Go.Proofs.Ytiomokjidipjkaa
