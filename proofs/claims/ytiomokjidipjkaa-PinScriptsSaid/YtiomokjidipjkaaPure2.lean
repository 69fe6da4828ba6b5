/- What is encoded is decoded. -/
import Derived.Test.YtiomokjidipjkaaA9
namespace Go.Proofs.Ytiomokjidipjkaa
open Go.RowKit
def okRune (r : Nat) : Prop := r < 55296 ∨ (57344 ≤ r ∧ r ≤ 1114111)
theorem get_list (l : List UInt8) (j : Nat) (h : j < l.length) : (⟨l.toArray⟩ : ByteArray).get! j = l[j] := by
  show (l.toArray)[j]! = l[j]
  simp [h]
theorem get_mid (p e q : List UInt8) (k : Nat) (h : k < e.length) : (⟨(p ++ e ++ q).toArray⟩ : ByteArray).get! (p.length + k) = e[k] := by
  rw [get_list _ _ (by simp; omega)]
  simp [List.getElem_append, h]
theorem b8 (n : Nat) (h : n < 256) : ((n : Int).toNat.toUInt8).toNat = n := by
  simp [Nat.toUInt8, UInt8.toNat_ofNat']; omega
theorem decode_enc (p q : List UInt8) (r : Nat) (hv : okRune r) :
    Utf8.decode ⟨(p ++ Lib.encodeRune (r : Int) ++ q).toArray⟩ p.length = (r, (Lib.encodeRune (r : Int)).length) := by
  obtain ⟨e, he⟩ : ∃ e, e = Lib.encodeRune (r : Int) := ⟨_, rfl⟩
  rw [← he]
  have hsz : (⟨(p ++ e ++ q).toArray⟩ : ByteArray).size = p.length + e.length + q.length := by simp [ByteArray.size]; omega
  have hval : Utf8.valid (r : Int) = true := by
    unfold okRune at hv; simp [Utf8.valid]; omega
  unfold okRune at hv
  by_cases c1 : r ≤ 127
  · have h1 : e = [(r : Int).toNat.toUInt8] := by rw [he]; simp [Lib.encodeRune, Lib.encodeRuneZ_one (show (0 : Int) ≤ r by omega) (by omega)]
    have g0 := get_mid p e q 0 (by rw [h1]; simp)
    have e0 : (e[0]'(by rw [h1]; simp)).toNat = r := by simp only [h1, List.getElem_cons_zero]; exact b8 r (by omega)
    have hlen : e.length = 1 := by rw [h1]; rfl
    simp only [Utf8.decode, g0, e0]
    rw [if_pos (by omega), hlen]
  · by_cases c2 : r ≤ 2047
    · have h1 : e = [((192 + (r / 64 : Nat) : Nat) : Int).toNat.toUInt8, ((128 + (r % 64 : Nat) : Nat) : Int).toNat.toUInt8] := by
        rw [he]; simp only [Lib.encodeRune, Lib.encodeRuneZ_two (show (128 : Int) ≤ r by omega) (by omega)]
        simp only [List.map_cons, List.map_nil]; rfl
      have hlen : e.length = 2 := by rw [h1]; rfl
      have g0 := get_mid p e q 0 (by omega)
      have g1 := get_mid p e q 1 (by omega)
      have e0 : (e[0]'(by omega)).toNat = 192 + r / 64 := by simp only [h1, List.getElem_cons_zero]; exact b8 _ (by omega)
      have e1 : (e[1]'(by omega)).toNat = 128 + r % 64 := by simp only [h1, List.getElem_cons_succ, List.getElem_cons_zero]; exact b8 _ (by omega)
      have hr : (192 + r / 64) % 32 * 64 + (128 + r % 64) % 64 = r := by omega
      simp only [Utf8.decode, g0, e0, g1, e1, hsz, hlen, hr]
      rw [if_neg (by omega), if_pos (by simp; omega), if_pos (by omega)]
    · by_cases c3 : r ≤ 65535
      · have h1 : e = [((224 + (r / 4096 : Nat) : Nat) : Int).toNat.toUInt8, ((128 + (r / 64 % 64 : Nat) : Nat) : Int).toNat.toUInt8, ((128 + (r % 64 : Nat) : Nat) : Int).toNat.toUInt8] := by
          rw [he]; simp only [Lib.encodeRune, Lib.encodeRuneZ_three (r := (r : Int)) (by omega)]
          simp only [List.map_cons, List.map_nil]; rfl
        have hlen : e.length = 3 := by rw [h1]; rfl
        have g0 := get_mid p e q 0 (by omega)
        have g1 := get_mid p e q 1 (by omega)
        have g2 := get_mid p e q 2 (by omega)
        have e0 : (e[0]'(by omega)).toNat = 224 + r / 4096 := by simp only [h1, List.getElem_cons_zero]; exact b8 _ (by omega)
        have e1 : (e[1]'(by omega)).toNat = 128 + r / 64 % 64 := by simp only [h1, List.getElem_cons_succ, List.getElem_cons_zero]; exact b8 _ (by omega)
        have e2 : (e[2]'(by omega)).toNat = 128 + r % 64 := by simp only [h1, List.getElem_cons_succ, List.getElem_cons_zero]; exact b8 _ (by omega)
        have hr : (224 + r / 4096) % 16 * 4096 + (128 + r / 64 % 64) % 64 * 64 + (128 + r % 64) % 64 = r := by omega
        simp only [Utf8.decode, g0, e0, g1, e1, g2, e2, hsz, hlen, hr, hval]
        rw [if_neg (by omega), if_neg (by simp; omega), if_pos (by simp; omega), if_pos (by simp; omega)]
      · have h1 : e = [((240 + (r / 262144 : Nat) : Nat) : Int).toNat.toUInt8, ((128 + (r / 4096 % 64 : Nat) : Nat) : Int).toNat.toUInt8, ((128 + (r / 64 % 64 : Nat) : Nat) : Int).toNat.toUInt8, ((128 + (r % 64 : Nat) : Nat) : Int).toNat.toUInt8] := by
          rw [he]; simp only [Lib.encodeRune, Lib.encodeRuneZ_four (r := (r : Int)) (by omega) (by omega)]
          simp only [List.map_cons, List.map_nil]; rfl
        have hlen : e.length = 4 := by rw [h1]; rfl
        have g0 := get_mid p e q 0 (by omega)
        have g1 := get_mid p e q 1 (by omega)
        have g2 := get_mid p e q 2 (by omega)
        have g3 := get_mid p e q 3 (by omega)
        have e0 : (e[0]'(by omega)).toNat = 240 + r / 262144 := by simp only [h1, List.getElem_cons_zero]; exact b8 _ (by omega)
        have e1 : (e[1]'(by omega)).toNat = 128 + r / 4096 % 64 := by simp only [h1, List.getElem_cons_succ, List.getElem_cons_zero]; exact b8 _ (by omega)
        have e2 : (e[2]'(by omega)).toNat = 128 + r / 64 % 64 := by simp only [h1, List.getElem_cons_succ, List.getElem_cons_zero]; exact b8 _ (by omega)
        have e3 : (e[3]'(by omega)).toNat = 128 + r % 64 := by simp only [h1, List.getElem_cons_succ, List.getElem_cons_zero]; exact b8 _ (by omega)
        have hr : (240 + r / 262144) % 8 * 262144 + (128 + r / 4096 % 64) % 64 * 4096 + (128 + r / 64 % 64) % 64 * 64 + (128 + r % 64) % 64 = r := by omega
        simp only [Utf8.decode, g0, e0, g1, e1, g2, e2, g3, e3, hsz, hlen, hr, hval]
        rw [if_neg (by omega), if_neg (by simp; omega), if_neg (by simp; omega), if_pos (by simp; omega), if_pos (by simp; omega)]
theorem signs_enc_from (q : List Nat) : ∀ (p : List UInt8) (b : Nat), (∀ r ∈ q, okRune r) → (encL q).length ≤ b → sg ⟨(p ++ encL q).toArray⟩ b p.length = q := by
  induction q with
  | nil =>
    intro p b _ _
    exact sg_end _ _ _ (by simp [encL, ByteArray.size])
  | cons r q ih =>
    intro p b hq hb
    have hpos : 1 ≤ (Lib.encodeRune (r : Int)).length := by
      have := Lib.runeCells_le (r : Int); rw [Lib.runeCells_length] at this; exact this.1
    rw [encL_cons] at hb ⊢
    rw [List.length_append] at hb
    obtain ⟨b', rfl⟩ : ∃ b', b = b' + 1 := ⟨b - 1, by omega⟩
    have hsz : p.length < (⟨(p ++ (Lib.encodeRune (r : Int) ++ encL q)).toArray⟩ : ByteArray).size := by simp [ByteArray.size]; omega
    have hdec := decode_enc p (encL q) r (hq r (by simp))
    rw [List.append_assoc] at hdec
    unfold sg
    rw [if_pos hsz, hdec]
    have ih' := ih (p ++ Lib.encodeRune (r : Int)) b' (fun x hx => hq x (by simp [hx])) (by omega)
    rw [List.append_assoc, List.length_append] at ih'
    rw [ih']
theorem signs_enc (q : List Nat) (h : ∀ r ∈ q, okRune r) : signs ⟨(encL q).toArray⟩ = q := by
  have := signs_enc_from q [] (encL q).length h (Nat.le_refl _)
  simpa [signs, ByteArray.size] using this
theorem decode_okRune (s : ByteArray) (pos : Nat) : okRune (Utf8.decode s pos).1 := by
  have h1 : ∀ k, (s.get! k).toNat < 256 := fun k => UInt8.toNat_lt _
  unfold Utf8.decode okRune
  dsimp only
  have a0 := h1 (pos + 0)
  simp only [Utf8.runeError]
  repeat' split
  all_goals (try omega)
  all_goals (rename_i hv; simp [Utf8.valid] at hv; simp; omega)
theorem signs_ok (s : ByteArray) : ∀ r ∈ signs s, okRune r := by
  have : ∀ b pos, ∀ r ∈ sg s b pos, okRune r := by
    intro b
    induction b with
    | zero => intro pos r h; simp [sg] at h
    | succ b ih =>
      intro pos r h
      unfold sg at h
      split at h
      · rcases List.mem_cons.1 h with rfl | h
        · exact decode_okRune s pos
        · exact ih _ r h
      · simp at h
  exact this _ _
theorem maskL_ok : ∀ (l : List Nat), (∀ r ∈ l, okRune r) → ∀ r ∈ maskL l, okRune r
  | [], _, r, h => by simp [maskL] at h
  | a :: l, hl, r, h => by
    simp only [maskL, List.mem_cons] at h
    rcases h with rfl | h
    · split
      · unfold okRune; omega
      · exact hl a (by simp)
    · exact maskL_ok l (fun x hx => hl x (by simp [hx])) r h
theorem signs_mask (s : ByteArray) : signs (maskB s) = maskL (signs s) := signs_enc _ (maskL_ok _ (signs_ok s))
end Go.Proofs.Ytiomokjidipjkaa
