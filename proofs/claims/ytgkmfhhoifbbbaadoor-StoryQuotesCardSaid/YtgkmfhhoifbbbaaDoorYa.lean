/- The signs of a text, as the model's decoder steps, and their bytes; what is kept while a text is walked: plain lemmas. -/
import Derived.Test.YtgkmfhhoifbbbaaDoorRows
import Derived.Test.YtgkmfhhoifbbbaaDoorProg
import GoSem.Claim
import Derived.Laws.RangeAny
import Derived.Below
import Derived.Laws.RangeString
import Derived.WalkKit
import Derived.WalkSpells
import Derived.WalkLawsBesides
import Derived.Lib.OthersKept
import Derived.WalkSmall
import Derived.Lib.Hide
import Derived.Laws.IdiomStrings
import Derived.Lib.RuneBytes
import Derived.Laws.Cover4
import Derived.Laws.OwnMore
namespace Go.Proofs.YtgkmfhhoifbbbaaDoor
open Go Go.RowKit
/-- the signs of s from place pos on, at most so many -/
def sg (s : ByteArray) : Nat → Nat → List Nat
  | 0, _ => []
  | f + 1, pos => if pos < s.size then (Utf8.decode s pos).1 :: sg s f (pos + (Utf8.decode s pos).2) else []
def signs (s : ByteArray) : List Nat := sg s s.size 0
theorem width_pos (s : ByteArray) (pos : Nat) (h : pos < s.size) : 1 ≤ (Utf8.decode s pos).2 := by
  by_cases ha : (s[pos]'h).toNat < 128
  · rw [decode_ascii s pos h ha]
    exact Nat.le_refl _
  · exact (decode_high s pos h (by omega)).2
theorem sg_end (s : ByteArray) (b pos : Nat) (h : ¬ pos < s.size) : sg s b pos = [] := by
  cases b with
  | zero => rfl
  | succ b => simp [sg, h]
theorem sg_length (s : ByteArray) : ∀ (b pos : Nat), (sg s b pos).length ≤ s.size - pos
  | 0, _ => by simp [sg]
  | b + 1, pos => by
    unfold sg
    split
    · rename_i h
      have := sg_length s b (pos + (Utf8.decode s pos).2)
      have := width_pos s pos h
      simp
      omega
    · simp
/-- one more step of fuel makes no difference when there is enough -/
theorem sg_fuel (s : ByteArray) : ∀ (b b' pos : Nat), s.size ≤ pos + b → s.size ≤ pos + b' → sg s b pos = sg s b' pos
  | 0, b', pos, h, _ => by rw [sg_end s b' pos (by omega)]; rfl
  | b + 1, 0, pos, _, h => by rw [sg_end s (b + 1) pos (by omega)]; rfl
  | b + 1, b' + 1, pos, h, h' => by
    unfold sg
    split
    · rename_i hp
      have := width_pos s pos hp
      rw [sg_fuel s b b' (pos + (Utf8.decode s pos).2) (by omega) (by omega)]
    · rfl

theorem decode_le (s : ByteArray) (pos : Nat) : (Utf8.decode s pos).1 ≤ 1114111 := by
  unfold Utf8.decode
  have h1 : ∀ k, (s.get! k).toNat < 256 := fun k => UInt8.toNat_lt _
  dsimp only
  have a0 := h1 (pos + 0)
  have a1 := h1 (pos + 1)
  have a2 := h1 (pos + 2)
  have a3 := h1 (pos + 3)
  simp only [Utf8.runeError]
  repeat' split
  all_goals (try omega)
  all_goals (rename_i hv; simp [Utf8.valid] at hv; simp; omega)

theorem grown_iterAt (w : World) (k : Nat) (s : ByteArray) (pos : Nat) : w.grownBy (w.iterAt k s pos) (some k) :=
  ⟨rfl, rfl, rfl, by rw [Lib.iterAt_size]; exact Nat.le_refl _, fun j _ hne => Lib.iterAt_other w k j s pos (fun e => hne (by rw [e]))⟩
theorem own_ne_iter {w : World} {B e size n : Nat} {v : Value} {xs : List Value} (h : w.ownsRow B e size v n xs) {k : Nat} {s : ByteArray} {pos : Nat} (hk : w.heap[k]? = some (.stringIter s pos)) :
    v.ownBlock ≠ some k := by
  intro e
  rcases h.2 with ⟨rfl, _⟩ | ⟨g, cap, cur, rfl, _, hg, _⟩
  · simp [Value.ownBlock] at e
  · simp [Value.ownBlock] at e
    subst e
    rw [hk] at hg
    cases hg
theorem own_iterAt {w : World} {B e size n : Nat} {v : Value} {xs : List Value} (h : w.ownsRow B e size v n xs) {k : Nat} {s : ByteArray} {pos : Nat} (hk : w.heap[k]? = some (.stringIter s pos)) (pos' : Nat) :
    (w.iterAt k s pos').ownsRow B e size v n xs :=
  h.kept (grown_iterAt w k s pos') (.inr (own_ne_iter h hk))
theorem iter_grown {w w' : World} {row : Option Nat} {k : Nat} {s : ByteArray} {pos : Nat} (hk : w.heap[k]? = some (.stringIter s pos)) (hg : w.grownBy w' row) (hne : row ≠ some k) :
    w'.heap[k]? = some (.stringIter s pos) := by
  have hlt : k < w.heap.size := (Array.getElem?_eq_some_iff.1 hk).1
  rw [hg.block k hlt (fun e => hne e.symm)]
  exact hk
theorem World.cell_new_iter (w : World) (o : Obj) {k : Nat} {x : Obj} (hk : w.heap[k]? = some x) : (w.alloc o).heap[k]? = some x := by
  rw [Below.heap_alloc w o k (Array.getElem?_eq_some_iff.1 hk).1]; exact hk
theorem own_len {w : World} {B e n : Nat} {v : Value} {xs : List Value} (h : w.ownsRow B e 1 v n xs) : ∃ a c, v = .slice a n c ∧ xs.length = n ∧ n ≤ maxLen := by
  rcases h.2 with ⟨rfl, rfl⟩ | ⟨g, cap, cur, rfl, _, _, h1, h2, _⟩
  · exact ⟨none, 0, rfl, by simpa using h.1, Nat.zero_le _⟩
  · exact ⟨_, cap, rfl, by simpa using h.1, Nat.le_trans h1 h2⟩

theorem own_bytes {w : World} {B e : Nat} {v : Value} {l : List UInt8} (h : w.ownsRow B e 1 v l.length (Lib.byteCells l)) (P : Program) (src dst : TypeId) (hs : P.underlying src = some (.slice e)) (he : P.underlying e = some (.int .u8)) (hd : P.underlying dst = some .string) :
    (convert src dst v).run P w = .ok (.string ⟨l.toArray⟩) w := by
  rcases h.2 with ⟨rfl, h0⟩ | ⟨g, cap, cur, rfl, _, hg, h1, h2, h3, h4⟩
  · have : l = [] := List.eq_nil_of_length_eq_zero h0
    subst this
    simp [convert, run_underlying hs, run_underlying he, run_underlying hd, Conv.bytesToString, Sem.run]
    rfl
  · refine run_convert_bytes_back w src dst e ⟨g, 0, none⟩ cap l hs he hd ?_
    intro j hj
    have hc := h.cells (g := g) rfl j (.int .u8 (l[j].toNat : Int)) (by simp [Lib.byteCells, hj])
    exact hc
def encL (l : List Nat) : List UInt8 := l.flatMap fun (r : Nat) => Lib.encodeRune (r : Int)
theorem encL_cons (r : Nat) (l : List Nat) : encL (r :: l) = Lib.encodeRune (r : Int) ++ encL l := by simp [encL]
theorem encL_append (a b : List Nat) : encL (a ++ b) = encL a ++ encL b := by simp [encL]
theorem encode_ok (r : Nat) (h : r ≤ 1114111) : Utf8.encode (r : Int) = ⟨(Lib.encodeRune (r : Int)).toArray⟩ := by
  have hv : Utf8.valid (r : Int) = true ↔ (r < 55296 ∨ (57344 ≤ r ∧ r ≤ 1114111)) := by
    simp [Utf8.valid]; omega
  have tb : ∀ n : Nat, UInt8.ofNat n = (n : Int).toNat.toUInt8 := fun n => rfl
  unfold Utf8.encode Lib.encodeRune
  by_cases hc : Utf8.valid (r : Int) = true
  · have hv' := hv.1 hc
    simp only [hc, if_true, Int.toNat_natCast]
    by_cases c1 : r < 128
    · rw [if_pos c1, Lib.encodeRuneZ_one (by omega) (by omega)]; rfl
    · rw [if_neg c1]
      by_cases c2 : r < 2048
      · rw [if_pos c2, Lib.encodeRuneZ_two (by omega) (by omega)]
        simp only [List.map_cons, List.map_nil]
        congr 2
      · rw [if_neg c2]
        by_cases c3 : r < 65536
        · rw [if_pos c3, Lib.encodeRuneZ_three (by omega)]
          rfl
        · rw [if_neg c3, Lib.encodeRuneZ_four (by omega) (by omega)]
          rfl
  · have hv' : ¬ (r < 55296 ∨ (57344 ≤ r ∧ r ≤ 1114111)) := fun e => hc (hv.2 e)
    have hc' : Utf8.valid (r : Int) = false := by simpa using hc
    simp only [hc', Bool.false_eq_true, if_false]
    rw [Lib.encodeRuneZ_bad (by omega)]
    rfl
def okRune (r : Nat) : Prop := r < 55296 ∨ (57344 ≤ r ∧ r ≤ 1114111)
theorem get_list (l : List UInt8) (j : Nat) (h : j < l.length) : (⟨l.toArray⟩ : ByteArray).get! j = l[j] := by
  show (l.toArray)[j]! = l[j]
  simp [h]
theorem get_mid (p e q : List UInt8) (k : Nat) (h : k < e.length) : (⟨(p ++ e ++ q).toArray⟩ : ByteArray).get! (p.length + k) = e[k] := by
  rw [get_list _ _ (by simp; omega)]
  simp [List.getElem_append, h]
theorem b8 (n : Nat) (h : n < 256) : ((n : Int).toNat.toUInt8).toNat = n := by
  simp [Nat.toUInt8, UInt8.toNat_ofNat']; omega
theorem decode_enc (p q : List UInt8) (r : Nat) (hv : okRune r) :
    Utf8.decode ⟨(p ++ Lib.encodeRune (r : Int) ++ q).toArray⟩ p.length = (r, (Lib.encodeRune (r : Int)).length) := by
  obtain ⟨e, he⟩ : ∃ e, e = Lib.encodeRune (r : Int) := ⟨_, rfl⟩
  rw [← he]
  have hsz : (⟨(p ++ e ++ q).toArray⟩ : ByteArray).size = p.length + e.length + q.length := by simp [ByteArray.size]; omega
  have hval : Utf8.valid (r : Int) = true := by
    unfold okRune at hv; simp [Utf8.valid]; omega
  unfold okRune at hv
  by_cases c1 : r ≤ 127
  · have h1 : e = [(r : Int).toNat.toUInt8] := by rw [he]; simp [Lib.encodeRune, Lib.encodeRuneZ_one (show (0 : Int) ≤ r by omega) (by omega)]
    have g0 := get_mid p e q 0 (by rw [h1]; simp)
    have e0 : (e[0]'(by rw [h1]; simp)).toNat = r := by simp only [h1, List.getElem_cons_zero]; exact b8 r (by omega)
    have hlen : e.length = 1 := by rw [h1]; rfl
    simp only [Utf8.decode, g0, e0]
    rw [if_pos (by omega), hlen]
  · by_cases c2 : r ≤ 2047
    · have h1 : e = [((192 + (r / 64 : Nat) : Nat) : Int).toNat.toUInt8, ((128 + (r % 64 : Nat) : Nat) : Int).toNat.toUInt8] := by
        rw [he]; simp only [Lib.encodeRune, Lib.encodeRuneZ_two (show (128 : Int) ≤ r by omega) (by omega)]
        simp only [List.map_cons, List.map_nil]; rfl
      have hlen : e.length = 2 := by rw [h1]; rfl
      have g0 := get_mid p e q 0 (by omega)
      have g1 := get_mid p e q 1 (by omega)
      have e0 : (e[0]'(by omega)).toNat = 192 + r / 64 := by simp only [h1, List.getElem_cons_zero]; exact b8 _ (by omega)
      have e1 : (e[1]'(by omega)).toNat = 128 + r % 64 := by simp only [h1, List.getElem_cons_succ, List.getElem_cons_zero]; exact b8 _ (by omega)
      have hr : (192 + r / 64) % 32 * 64 + (128 + r % 64) % 64 = r := by omega
      simp only [Utf8.decode, g0, e0, g1, e1, hsz, hlen, hr]
      rw [if_neg (by omega), if_pos (by simp; omega), if_pos (by omega)]
    · by_cases c3 : r ≤ 65535
      · have h1 : e = [((224 + (r / 4096 : Nat) : Nat) : Int).toNat.toUInt8, ((128 + (r / 64 % 64 : Nat) : Nat) : Int).toNat.toUInt8, ((128 + (r % 64 : Nat) : Nat) : Int).toNat.toUInt8] := by
          rw [he]; simp only [Lib.encodeRune, Lib.encodeRuneZ_three (r := (r : Int)) (by omega)]
          simp only [List.map_cons, List.map_nil]; rfl
        have hlen : e.length = 3 := by rw [h1]; rfl
        have g0 := get_mid p e q 0 (by omega)
        have g1 := get_mid p e q 1 (by omega)
        have g2 := get_mid p e q 2 (by omega)
        have e0 : (e[0]'(by omega)).toNat = 224 + r / 4096 := by simp only [h1, List.getElem_cons_zero]; exact b8 _ (by omega)
        have e1 : (e[1]'(by omega)).toNat = 128 + r / 64 % 64 := by simp only [h1, List.getElem_cons_succ, List.getElem_cons_zero]; exact b8 _ (by omega)
        have e2 : (e[2]'(by omega)).toNat = 128 + r % 64 := by simp only [h1, List.getElem_cons_succ, List.getElem_cons_zero]; exact b8 _ (by omega)
        have hr : (224 + r / 4096) % 16 * 4096 + (128 + r / 64 % 64) % 64 * 64 + (128 + r % 64) % 64 = r := by omega
        simp only [Utf8.decode, g0, e0, g1, e1, g2, e2, hsz, hlen, hr, hval]
        rw [if_neg (by omega), if_neg (by simp; omega), if_pos (by simp; omega), if_pos (by simp; omega)]
      · have h1 : e = [((240 + (r / 262144 : Nat) : Nat) : Int).toNat.toUInt8, ((128 + (r / 4096 % 64 : Nat) : Nat) : Int).toNat.toUInt8, ((128 + (r / 64 % 64 : Nat) : Nat) : Int).toNat.toUInt8, ((128 + (r % 64 : Nat) : Nat) : Int).toNat.toUInt8] := by
          rw [he]; simp only [Lib.encodeRune, Lib.encodeRuneZ_four (r := (r : Int)) (by omega) (by omega)]
          simp only [List.map_cons, List.map_nil]; rfl
        have hlen : e.length = 4 := by rw [h1]; rfl
        have g0 := get_mid p e q 0 (by omega)
        have g1 := get_mid p e q 1 (by omega)
        have g2 := get_mid p e q 2 (by omega)
        have g3 := get_mid p e q 3 (by omega)
        have e0 : (e[0]'(by omega)).toNat = 240 + r / 262144 := by simp only [h1, List.getElem_cons_zero]; exact b8 _ (by omega)
        have e1 : (e[1]'(by omega)).toNat = 128 + r / 4096 % 64 := by simp only [h1, List.getElem_cons_succ, List.getElem_cons_zero]; exact b8 _ (by omega)
        have e2 : (e[2]'(by omega)).toNat = 128 + r / 64 % 64 := by simp only [h1, List.getElem_cons_succ, List.getElem_cons_zero]; exact b8 _ (by omega)
        have e3 : (e[3]'(by omega)).toNat = 128 + r % 64 := by simp only [h1, List.getElem_cons_succ, List.getElem_cons_zero]; exact b8 _ (by omega)
        have hr : (240 + r / 262144) % 8 * 262144 + (128 + r / 4096 % 64) % 64 * 4096 + (128 + r / 64 % 64) % 64 * 64 + (128 + r % 64) % 64 = r := by omega
        simp only [Utf8.decode, g0, e0, g1, e1, g2, e2, g3, e3, hsz, hlen, hr, hval]
        rw [if_neg (by omega), if_neg (by simp; omega), if_neg (by simp; omega), if_pos (by simp; omega), if_pos (by simp; omega)]
theorem signs_enc_from (q : List Nat) : ∀ (p : List UInt8) (b : Nat), (∀ r ∈ q, okRune r) → (encL q).length ≤ b → sg ⟨(p ++ encL q).toArray⟩ b p.length = q := by
  induction q with
  | nil =>
    intro p b _ _
    exact sg_end _ _ _ (by simp [encL, ByteArray.size])
  | cons r q ih =>
    intro p b hq hb
    have hpos : 1 ≤ (Lib.encodeRune (r : Int)).length := by
      have := Lib.runeCells_le (r : Int); rw [Lib.runeCells_length] at this; exact this.1
    rw [encL_cons] at hb ⊢
    rw [List.length_append] at hb
    obtain ⟨b', rfl⟩ : ∃ b', b = b' + 1 := ⟨b - 1, by omega⟩
    have hsz : p.length < (⟨(p ++ (Lib.encodeRune (r : Int) ++ encL q)).toArray⟩ : ByteArray).size := by simp [ByteArray.size]; omega
    have hdec := decode_enc p (encL q) r (hq r (by simp))
    rw [List.append_assoc] at hdec
    unfold sg
    rw [if_pos hsz, hdec]
    have ih' := ih (p ++ Lib.encodeRune (r : Int)) b' (fun x hx => hq x (by simp [hx])) (by omega)
    rw [List.append_assoc, List.length_append] at ih'
    rw [ih']
theorem signs_enc (q : List Nat) (h : ∀ r ∈ q, okRune r) : signs ⟨(encL q).toArray⟩ = q := by
  have := signs_enc_from q [] (encL q).length h (Nat.le_refl _)
  simpa [signs, ByteArray.size] using this
theorem decode_okRune (s : ByteArray) (pos : Nat) : okRune (Utf8.decode s pos).1 := by
  have h1 : ∀ k, (s.get! k).toNat < 256 := fun k => UInt8.toNat_lt _
  unfold Utf8.decode okRune
  dsimp only
  have a0 := h1 (pos + 0)
  simp only [Utf8.runeError]
  repeat' split
  all_goals (try omega)
  all_goals (rename_i hv; simp [Utf8.valid] at hv; simp; omega)
theorem signs_ok (s : ByteArray) : ∀ r ∈ signs s, okRune r := by
  have : ∀ b pos, ∀ r ∈ sg s b pos, okRune r := by
    intro b
    induction b with
    | zero => intro pos r h; simp [sg] at h
    | succ b ih =>
      intro pos r h
      unfold sg at h
      split at h
      · rcases List.mem_cons.1 h with rfl | h
        · exact decode_okRune s pos
        · exact ih _ r h
      · simp at h
  exact this _ _
theorem enc_ascii : ∀ (a : List UInt8), (∀ x ∈ a, x.toNat ≤ 127) → encL (a.map UInt8.toNat) = a
  | [], _ => rfl
  | x :: a, h => by
    have hx := h x (by simp)
    rw [List.map_cons, encL_cons, enc_ascii a (fun y hy => h y (by simp [hy]))]
    have : Lib.encodeRune (x.toNat : Int) = [x] := by
      simp only [Lib.encodeRune, Lib.encodeRuneZ_one (show (0 : Int) ≤ x.toNat by omega) (by omega), List.map_cons, List.map_nil]
      congr 1
      apply UInt8.toNat_inj.1
      exact b8 _ (UInt8.toNat_lt _)
    rw [this]; rfl
theorem signs_ascii (a : List UInt8) (h : ∀ x ∈ a, x.toNat ≤ 127) : signs ⟨a.toArray⟩ = a.map UInt8.toNat := by
  have := signs_enc (a.map UInt8.toNat) (by
    intro r hr
    obtain ⟨x, hx, rfl⟩ := List.mem_map.1 hr
    have := h x hx
    unfold okRune; omega)
  rwa [enc_ascii a h] at this
end Go.Proofs.YtgkmfhhoifbbbaaDoor
