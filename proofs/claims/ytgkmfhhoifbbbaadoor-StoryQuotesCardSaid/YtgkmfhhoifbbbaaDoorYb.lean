/- Quotes as functions of signs; what the program's scan and the document's scan of a quote tell: plain lemmas. -/
import Derived.Test.YtgkmfhhoifbbbaaDoorYa
import Derived.Lib.MapLaws
import Derived.Lib.TrimUEq
namespace Go.Proofs.YtgkmfhhoifbbbaaDoor
open Go Go.RowKit
def qr (r : Nat) : List UInt8 := if r = 34 then [92, 34] else if r = 92 then [92, 92] else if r = 10 then [92, 110] else Lib.encodeRune (r : Int)
def qrs (l : List Nat) : List UInt8 := l.flatMap qr
def quoteL (l : List Nat) : List UInt8 := 34 :: (qrs l ++ [34])
theorem qrs_nil : qrs [] = [] := rfl
theorem qrs_cons (r : Nat) (l : List Nat) : qrs (r :: l) = qr r ++ qrs l := by simp [qrs]
theorem qrs_append (a b : List Nat) : qrs (a ++ b) = qrs a ++ qrs b := by simp [qrs]
theorem qr_len (r : Nat) : 1 ≤ (qr r).length ∧ (qr r).length ≤ 4 := by
  have h := Lib.runeCells_le (r : Int)
  rw [Lib.runeCells_length] at h
  unfold qr
  split
  · simp
  · split
    · simp
    · split
      · simp
      · exact h
theorem qrs_len (l : List Nat) : l.length ≤ (qrs l).length ∧ (qrs l).length ≤ 4 * l.length := by
  induction l with
  | nil => simp [qrs]
  | cons r l ih => rw [qrs_cons, List.length_append]; have := qr_len r; simp; omega
theorem enc_len (l : List Nat) : l.length ≤ (encL l).length ∧ (encL l).length ≤ 4 * l.length := by
  induction l with
  | nil => simp [encL]
  | cons r l ih =>
    rw [encL_cons, List.length_append]
    have h := Lib.runeCells_le (r : Int)
    rw [Lib.runeCells_length] at h
    simp; omega
theorem enc_ascii1 (r : Nat) (h : r ≤ 127) : Lib.encodeRune (r : Int) = [UInt8.ofNat r] := by
  simp only [Lib.encodeRune, Lib.encodeRuneZ_one (show (0 : Int) ≤ r by omega) (by omega), List.map_cons, List.map_nil]
  rfl
/-- the program's scan of what is behind a quote's first sign -/
def scanP (s : ByteArray) : Nat → Nat → Bool → List Nat → Option (List Nat × Nat)
  | 0, _, _, _ => none
  | f + 1, pos, bh, rs => if pos < s.size then
      (if bh = false ∧ (Utf8.decode s pos).1 = 34 then some (rs, pos)
      else if bh = false ∧ (Utf8.decode s pos).1 = 92 then scanP s f (pos + (Utf8.decode s pos).2) true rs
      else scanP s f (pos + (Utf8.decode s pos).2) false (rs ++ [if bh = true ∧ (Utf8.decode s pos).1 = 110 then 10 else (Utf8.decode s pos).1]))
    else none
/-- the document's scan -/
def scanD (s : ByteArray) : Nat → Nat → Bool → List Nat → Option (List Nat × Nat)
  | 0, _, _, _ => none
  | f + 1, pos, bh, rs => if pos < s.size then
      (if bh = true ∧ (Utf8.decode s pos).1 = 110 then scanD s f (pos + (Utf8.decode s pos).2) false (rs ++ [10])
      else if bh = true ∧ ((Utf8.decode s pos).1 = 34 ∨ (Utf8.decode s pos).1 = 92) then scanD s f (pos + (Utf8.decode s pos).2) false (rs ++ [(Utf8.decode s pos).1])
      else if bh = true ∨ (Utf8.decode s pos).1 = 10 ∨ ((Utf8.decode s pos).1 = 65533 ∧ (Utf8.decode s pos).2 = 1) then none
      else if (Utf8.decode s pos).1 = 92 then scanD s f (pos + (Utf8.decode s pos).2) true rs
      else if (Utf8.decode s pos).1 = 34 then some (rs, pos)
      else scanD s f (pos + (Utf8.decode s pos).2) false (rs ++ [(Utf8.decode s pos).1]))
    else none
def okRunes (l : List Nat) : Prop := ∀ r ∈ l, okRune r
theorem okRunes_snoc {l : List Nat} {r : Nat} (h : okRunes l) (hr : okRune r) : okRunes (l ++ [r]) := by
  intro x hx
  rcases List.mem_append.1 hx with hx | hx
  · exact h x hx
  · simp at hx; subst hx; exact hr
theorem dec_at (p q : List UInt8) (r : Nat) (hv : okRune r) (e : List UInt8) (he : Lib.encodeRune (r : Int) = e) : Utf8.decode ⟨(p ++ (e ++ q)).toArray⟩ p.length = (r, e.length) := by
  have := decode_enc p q r hv
  rw [he, List.append_assoc] at this
  exact this
theorem size_mk (l : List UInt8) : (⟨l.toArray⟩ : ByteArray).size = l.length := by simp [ByteArray.size]
theorem len_snoc {α : Type} (p q : List α) : p.length + q.length = (p ++ q).length := by simp
theorem scanP_step (s : ByteArray) (f pos : Nat) (bh : Bool) (rs : List Nat) (hp : pos < s.size) (r w : Nat) (hd : Utf8.decode s pos = (r, w)) :
    scanP s (f + 1) pos bh rs = if bh = false ∧ r = 34 then some (rs, pos) else if bh = false ∧ r = 92 then scanP s f (pos + w) true rs else scanP s f (pos + w) false (rs ++ [if bh = true ∧ r = 110 then 10 else r]) := by
  conv => lhs; unfold scanP
  rw [if_pos hp, hd]
theorem scanD_step (s : ByteArray) (f pos : Nat) (bh : Bool) (rs : List Nat) (hp : pos < s.size) (r w : Nat) (hd : Utf8.decode s pos = (r, w)) :
    scanD s (f + 1) pos bh rs = if bh = true ∧ r = 110 then scanD s f (pos + w) false (rs ++ [10]) else if bh = true ∧ (r = 34 ∨ r = 92) then scanD s f (pos + w) false (rs ++ [r]) else if bh = true ∨ r = 10 ∨ (r = 65533 ∧ w = 1) then none
      else if r = 92 then scanD s f (pos + w) true rs else if r = 34 then some (rs, pos) else scanD s f (pos + w) false (rs ++ [r]) := by
  conv => lhs; unfold scanD
  rw [if_pos hp, hd]
theorem enc_33 : Lib.encodeRune ((65533 : Nat) : Int) = [239, 191, 189] := by decide
set_option maxRecDepth 100000 in
theorem scan_q (rest : List UInt8) : ∀ (q : List Nat) (p : List UInt8) (rs : List Nat) (b : Nat), okRunes q → (qrs q ++ 34 :: rest).length ≤ b →
    scanP ⟨(p ++ (qrs q ++ 34 :: rest)).toArray⟩ b p.length false rs = some (rs ++ q, p.length + (qrs q).length) ∧
    scanD ⟨(p ++ (qrs q ++ 34 :: rest)).toArray⟩ b p.length false rs = some (rs ++ q, p.length + (qrs q).length)
  | [], p, rs, b, hq, hb => by
    obtain ⟨f, rfl⟩ : ∃ f, b = f + 1 := ⟨b - 1, by simp [qrs] at hb; omega⟩
    have hs : p.length < (⟨(p ++ (qrs [] ++ 34 :: rest)).toArray⟩ : ByteArray).size := by rw [size_mk, qrs_nil]; simp
    have hd := dec_at p rest 34 (by unfold okRune; omega) [34] (enc_ascii1 34 (by omega))
    have hd' : Utf8.decode ⟨(p ++ (qrs [] ++ 34 :: rest)).toArray⟩ p.length = (34, 1) := by simpa [qrs] using hd
    rw [scanP_step _ _ _ _ _ hs _ _ hd', scanD_step _ _ _ _ _ hs _ _ hd']
    simp [qrs]
  | r :: q, p, rs, b, hq, hb => by
    have hqr := hq r (by simp)
    have hq' : okRunes q := fun x hx => hq x (by simp [hx])
    rw [qrs_cons] at hb ⊢
    rw [List.append_assoc] at hb ⊢
    rw [List.length_append] at hb
    have hl := qr_len r
    obtain ⟨T, hT⟩ : ∃ T, T = qrs q ++ 34 :: rest := ⟨_, rfl⟩
    rw [← hT] at hb ⊢
    have two : ∀ c x : Nat, c ≤ 127 → (c = 34 ∨ c = 92 ∨ c = 110) → qr r = [92, UInt8.ofNat c] → (x = if c = 110 then 10 else c) → x = r →
        scanP ⟨(p ++ (qr r ++ T)).toArray⟩ b p.length false rs = some (rs ++ r :: q, p.length + (qr r ++ qrs q).length) ∧ scanD ⟨(p ++ (qr r ++ T)).toArray⟩ b p.length false rs = some (rs ++ r :: q, p.length + (qr r ++ qrs q).length) := by
      intro c x hc hc3 hqc hx hxr
      rw [hqc] at hb ⊢
      obtain ⟨f, rfl⟩ : ∃ f, b = f + 1 + 1 := ⟨b - 2, by simp at hb; omega⟩
      have hs : p.length < (⟨(p ++ ([92, UInt8.ofNat c] ++ T)).toArray⟩ : ByteArray).size := by rw [size_mk]; simp
      have hd : Utf8.decode ⟨(p ++ ([92, UInt8.ofNat c] ++ T)).toArray⟩ p.length = (92, 1) := dec_at p (UInt8.ofNat c :: T) 92 (by unfold okRune; omega) [92] (enc_ascii1 92 (by omega))
      have hs2 : p.length + 1 < (⟨(p ++ ([92, UInt8.ofNat c] ++ T)).toArray⟩ : ByteArray).size := by rw [size_mk]; simp
      have hd2 : Utf8.decode ⟨(p ++ ([92, UInt8.ofNat c] ++ T)).toArray⟩ (p.length + 1) = (c, 1) := by
        have := dec_at (p ++ [92]) T c (by unfold okRune; omega) [UInt8.ofNat c] (enc_ascii1 c hc)
        simpa [List.append_assoc] using this
      have ih := scan_q rest q (p ++ [92, UInt8.ofNat c]) (rs ++ [r]) f hq' (by rw [← hT]; simp at hb; omega)
      rw [← hT, List.append_assoc] at ih
      have e1 : (p ++ [92, UInt8.ofNat c]).length = p.length + 1 + 1 := by simp
      rw [e1] at ih
      have e2 : rs ++ [r] ++ q = rs ++ r :: q := by simp
      rw [e2] at ih
      have e3 : p.length + ([92, UInt8.ofNat c] ++ qrs q).length = p.length + 1 + 1 + (qrs q).length := by simp; omega
      rw [e3]
      rw [scanP_step _ _ _ _ _ hs _ _ hd, scanD_step _ _ _ _ _ hs _ _ hd]
      simp only [Nat.reduceEqDiff, and_false, and_true, if_false, if_true, or_false, false_or, Bool.false_eq_true, false_and, reduceCtorEq]
      rw [scanP_step _ _ _ _ _ hs2 _ _ hd2, scanD_step _ _ _ _ _ hs2 _ _ hd2]
      rcases hc3 with rfl | rfl | rfl
      · simp at hx; subst hx; subst hxr
        simpa using ih
      · simp at hx; subst hx; subst hxr
        simpa using ih
      · simp at hx; subst hx; subst hxr
        simpa using ih
    by_cases c1 : r = 34
    · exact two 34 34 (by omega) (by omega) (by simp [qr, c1]) (by simp) c1.symm
    by_cases c2 : r = 92
    · exact two 92 92 (by omega) (by omega) (by simp [qr, c2]) (by simp) c2.symm
    by_cases c3 : r = 10
    · exact two 110 10 (by omega) (by omega) (by simp [qr, c3]) (by simp) c3.symm
    have hqe : qr r = Lib.encodeRune (r : Int) := by simp [qr, c1, c2, c3]
    rw [hqe] at hb hl ⊢
    obtain ⟨f, rfl⟩ : ∃ f, b = f + 1 := ⟨b - 1, by omega⟩
    have hs : p.length < (⟨(p ++ (Lib.encodeRune (r : Int) ++ T)).toArray⟩ : ByteArray).size := by rw [size_mk]; simp; omega
    have hd := dec_at p T r hqr _ rfl
    have ih := scan_q rest q (p ++ Lib.encodeRune (r : Int)) (rs ++ [r]) f hq' (by rw [← hT]; omega)
    rw [← hT, List.append_assoc, List.length_append] at ih
    have e2 : rs ++ [r] ++ q = rs ++ r :: q := by simp
    rw [e2] at ih
    have e3 : p.length + (Lib.encodeRune (r : Int) ++ qrs q).length = p.length + (Lib.encodeRune (r : Int)).length + (qrs q).length := by simp; omega
    rw [e3]
    rw [scanP_step _ _ _ _ _ hs _ _ hd, scanD_step _ _ _ _ _ hs _ _ hd]
    have hw : ¬ (r = 65533 ∧ (Lib.encodeRune (r : Int)).length = 1) := by
      rintro ⟨rfl, h⟩; rw [enc_33] at h; simp at h
    simp only [c1, c2, c3, hw, and_false, false_and, or_false, if_false, Bool.false_eq_true]
    exact ih
theorem decode_w4 (s : ByteArray) (pos : Nat) : (Utf8.decode s pos).2 ≤ 4 := by
  unfold Utf8.decode
  dsimp only
  repeat' split
  all_goals omega
theorem len_list (s : ByteArray) : s.data.toList.length = s.size := Array.length_toList
theorem decode_bytes (s : ByteArray) (pos : Nat) (hp : pos < s.size) (hv : ¬ ((Utf8.decode s pos).1 = 65533 ∧ (Utf8.decode s pos).2 = 1)) :
    s.data.toList.take (pos + (Utf8.decode s pos).2) = s.data.toList.take pos ++ Lib.encodeRune ((Utf8.decode s pos).1 : Int) ∧ pos + (Utf8.decode s pos).2 ≤ s.size := by
  have hd := Lib.decodeL_drop s pos
  have hl := len_list s
  have hne : s.data.toList.drop pos ≠ [] := by intro e; have h1 := congrArg List.length e; rw [List.length_drop, len_list] at h1; simp at h1; omega
  have h := Lib.encode_decode (s.data.toList.drop pos) hne (by rw [hd]; exact hv)
  have h2 := Lib.decodeL_le (s.data.toList.drop pos) hne
  rw [hd] at h h2
  rw [List.length_drop, hl] at h2
  refine ⟨?_, by omega⟩
  rw [h, List.take_add]
theorem scanD_sound (s : ByteArray) : ∀ (b pos : Nat) (bh : Bool) (rs out : List Nat) (i : Nat), scanD s b pos bh rs = some (out, i) → okRunes rs →
    s.data.toList.take pos = qrs rs ++ (if bh = true then [92] else []) → okRunes out ∧ s.data.toList.take i = qrs out ∧ i < s.size ∧ s.data.toList.take (i + 1) = qrs out ++ [34]
  | 0, _, _, _, _, _, h, _, _ => by simp [scanD] at h
  | b + 1, pos, bh, rs, out, i, h, hok, ht => by
    by_cases hp : pos < s.size
    · obtain ⟨r, w, hd⟩ : ∃ r w, Utf8.decode s pos = (r, w) := ⟨_, _, rfl⟩
      have hr : okRune r := by have := decode_okRune s pos; rw [hd] at this; exact this
      have hb := decode_bytes s pos hp
      rw [hd] at hb
      simp only at hb
      rw [scanD_step s b pos bh rs hp r w hd] at h
      split at h
      · rename_i c; obtain ⟨rfl, rfl⟩ := c
        refine scanD_sound s b _ _ _ out i h (okRunes_snoc hok (by unfold okRune; omega)) ?_
        rw [(hb (by omega)).1, ht, qrs_append, enc_ascii1 110 (by omega)]
        simp [qrs, qr]
      · split at h
        · rename_i c; obtain ⟨rfl, c⟩ := c
          refine scanD_sound s b _ _ _ out i h (okRunes_snoc hok hr) ?_
          rw [(hb (by omega)).1, ht, qrs_append]
          rcases c with rfl | rfl
          · rw [enc_ascii1 34 (by omega)]; simp [qrs, qr]
          · rw [enc_ascii1 92 (by omega)]; simp [qrs, qr]
        · split at h
          · cases h
          · rename_i c
            simp only [not_or] at c
            obtain ⟨c1, c2, c3⟩ := c
            have hbf : bh = false := by simpa using c1
            subst hbf
            simp only [Bool.false_eq_true, if_false, List.append_nil] at ht
            obtain ⟨hb1, hb2⟩ := hb c3
            split at h
            · rename_i c; subst c
              refine scanD_sound s b _ _ _ out i h hok ?_
              rw [hb1, ht, enc_ascii1 92 (by omega)]
              simp
            · split at h
              · rename_i c4 c; subst c
                simp at h
                obtain ⟨rfl, rfl⟩ := h
                have hw : w = 1 := by
                  have h1 := congrArg List.length hb1
                  rw [enc_ascii1 34 (by omega)] at h1
                  have hl := len_list s
                  rw [List.length_append, List.length_take, List.length_take, hl] at h1
                  simp at h1
                  omega
                refine ⟨hok, ht, hp, ?_⟩
                rw [hw] at hb1
                rw [hb1, ht, enc_ascii1 34 (by omega)]
                rfl
              · rename_i c4 c5
                refine scanD_sound s b _ _ _ out i h (okRunes_snoc hok hr) ?_
                rw [hb1, ht, qrs_append]
                simp [qrs, qr, c2, c4, c5]
    · unfold scanD at h; rw [if_neg hp] at h; cases h
theorem scanP_ok (s : ByteArray) : ∀ (b pos : Nat) (bh : Bool) (rs out : List Nat) (i : Nat), scanP s b pos bh rs = some (out, i) → okRunes rs → okRunes out ∧ i < s.size ∧ out.length ≤ rs.length + b
  | 0, _, _, _, _, _, h, _ => by simp [scanP] at h
  | b + 1, pos, bh, rs, out, i, h, hok => by
    by_cases hp : pos < s.size
    · have hr := decode_okRune s pos
      unfold scanP at h
      rw [if_pos hp] at h
      split at h
      · simp at h; obtain ⟨rfl, rfl⟩ := h; exact ⟨hok, hp, by omega⟩
      · split at h
        · obtain ⟨h1, h2, h3⟩ := scanP_ok s b _ _ _ out i h hok
          exact ⟨h1, h2, by omega⟩
        · obtain ⟨h1, h2, h3⟩ := scanP_ok s b _ _ _ out i h (okRunes_snoc hok (by split; (unfold okRune; omega); exact hr))
          simp at h3
          exact ⟨h1, h2, by omega⟩
    · unfold scanP at h; rw [if_neg hp] at h; cases h
/-- the program's: the signs that a text's first quote quotes, and how many bytes it has -/
def quotedF : List UInt8 → Option (List Nat × Nat)
  | [] => none
  | c :: t => if c = 34 then (match scanP ⟨t.toArray⟩ t.length 0 false [] with | none => none | some (rs, i) => if quoteL rs = (c :: t).take (i + 2) then some (rs, i + 2) else none) else none
/-- the document's: the signs that are quoted, and what is behind -/
def cutF : List UInt8 → Option (List Nat × List UInt8)
  | [] => none
  | c :: t => if c = 34 then (match scanD ⟨t.toArray⟩ t.length 0 false [] with | none => none | some (rs, i) => some (rs, t.drop (i + 1))) else none
theorem quotedF_cons (c : UInt8) (t : List UInt8) : quotedF (c :: t) = if c = 34 then (match scanP ⟨t.toArray⟩ t.length 0 false [] with | none => none | some (rs, i) => if quoteL rs = (c :: t).take (i + 2) then some (rs, i + 2) else none) else none := rfl
theorem cutF_cons (c : UInt8) (t : List UInt8) : cutF (c :: t) = if c = 34 then (match scanD ⟨t.toArray⟩ t.length 0 false [] with | none => none | some (rs, i) => some (rs, t.drop (i + 1))) else none := rfl
theorem quotedF_q (q : List Nat) (rest : List UInt8) (h : okRunes q) : quotedF (quoteL q ++ rest) = some (q, (quoteL q).length) := by
  have h1 := (scan_q rest q [] [] (qrs q ++ 34 :: rest).length h (Nat.le_refl _)).1
  have e : quoteL q ++ rest = 34 :: (qrs q ++ 34 :: rest) := by simp [quoteL]
  rw [e]
  rw [quotedF_cons, if_pos rfl]
  simp only [List.nil_append, List.length_nil, Nat.zero_add] at h1
  rw [h1]
  have e2 : (34 :: (qrs q ++ 34 :: rest)).take ((qrs q).length + 2) = quoteL q := by
    rw [← e, show (qrs q).length + 2 = (quoteL q).length from by simp [quoteL], List.take_left']
    rfl
  simp only [e2, if_true]
  simp [quoteL]
theorem quotedF_inv {t : List UInt8} {q : List Nat} {n : Nat} (h : quotedF t = some (q, n)) : okRunes q ∧ t = quoteL q ++ t.drop n ∧ n = (quoteL q).length ∧ n ≤ t.length := by
  cases t with
  | nil => simp [quotedF] at h
  | cons c t =>
    rw [quotedF_cons] at h
    split at h
    · rename_i hc
      split at h
      · cases h
      · rename_i rs i hs
        split at h
        · rename_i hq
          simp at h
          obtain ⟨rfl, rfl⟩ := h
          obtain ⟨h1, h2, _⟩ := scanP_ok _ _ _ _ _ _ _ hs (fun r hr => by simp at hr)
          rw [size_mk] at h2
          refine ⟨h1, ?_, ?_, by simp; omega⟩
          · rw [hq, List.take_append_drop]
          · have := congrArg List.length hq
            rw [List.length_take] at this
            simp at this ⊢
            omega
        · cases h
    · cases h
theorem cutF_q (q : List Nat) (rest : List UInt8) (h : okRunes q) : cutF (quoteL q ++ rest) = some (q, rest) := by
  have h1 := (scan_q rest q [] [] (qrs q ++ 34 :: rest).length h (Nat.le_refl _)).2
  have e : quoteL q ++ rest = 34 :: (qrs q ++ 34 :: rest) := by simp [quoteL]
  rw [e]
  rw [cutF_cons, if_pos rfl]
  simp only [List.nil_append, List.length_nil, Nat.zero_add] at h1
  rw [h1]
  have : (qrs q ++ 34 :: rest).drop ((qrs q).length + 1) = rest := by
    rw [show (qrs q).length + 1 = (qrs q ++ [34]).length from by simp, show qrs q ++ 34 :: rest = (qrs q ++ [34]) ++ rest from by simp, List.drop_left']
    rfl
  simp only [this]
theorem cutF_inv {t : List UInt8} {q : List Nat} {rest : List UInt8} (h : cutF t = some (q, rest)) : okRunes q ∧ t = quoteL q ++ rest := by
  cases t with
  | nil => simp [cutF] at h
  | cons c t =>
    rw [cutF_cons] at h
    split at h
    · rename_i hc
      split at h
      · cases h
      · rename_i rs i hs
        simp at h
        obtain ⟨rfl, rfl⟩ := h
        obtain ⟨h1, h2, h3, h4⟩ := scanD_sound _ _ _ _ _ _ _ hs (fun r hr => by simp at hr) (by simp [qrs])
        refine ⟨h1, ?_⟩
        simp only at h4
        have : t = t.take (i + 1) ++ t.drop (i + 1) := (List.take_append_drop _ _).symm
        subst hc
        have e : t.take (i + 1) = qrs rs ++ [34] := h4
        unfold quoteL
        rw [List.cons_append, ← e]
        exact congrArg _ this
    · cases h
/-- both tell the same -/
theorem quoted_cut (t : List UInt8) : cutF t = (match quotedF t with | none => none | some (q, n) => some (q, t.drop n)) := by
  cases hq : quotedF t with
  | some x =>
    obtain ⟨q, n⟩ := x
    obtain ⟨h1, h2, h3, _⟩ := quotedF_inv hq
    have := cutF_q q (t.drop n) h1
    rw [← h2] at this
    exact this
  | none =>
    cases hc : cutF t with
    | none => rfl
    | some x =>
      obtain ⟨q, rest⟩ := x
      obtain ⟨h1, h2⟩ := cutF_inv hc
      rw [h2, quotedF_q q rest h1] at hq
      cases hq
theorem quote_inj {a b : List Nat} (ha : okRunes a) (hb : okRunes b) (h : quoteL a = quoteL b) : a = b := by
  have h1 := cutF_q a [] ha
  have h2 := cutF_q b [] hb
  rw [h, h2] at h1
  simp at h1
  exact h1.symm
end Go.Proofs.YtgkmfhhoifbbbaaDoor
