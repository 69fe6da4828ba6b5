/- texts of digits: what is encoded is decoded; two ways of writing the same digits -/
import Derived.Test.YtkneeocicbadjaaPnE
import Derived.Lib.RuneBytes
import Derived.Laws.Cover4
namespace Go.Proofs.Ytkneeocicbadjaa
open Go.RowKit
def encL (l : List Nat) : List UInt8 := l.flatMap fun (r : Nat) => Lib.encodeRune (r : Int)
theorem encL_cons (r : Nat) (l : List Nat) : encL (r :: l) = Lib.encodeRune (r : Int) ++ encL l := by simp [encL]
theorem encL_append (a b : List Nat) : encL (a ++ b) = encL a ++ encL b := by simp [encL]
theorem encode_ok (r : Nat) (h : r ≤ 1114111) : Utf8.encode (r : Int) = ⟨(Lib.encodeRune (r : Int)).toArray⟩ := by
  have hv : Utf8.valid (r : Int) = true ↔ (r < 55296 ∨ (57344 ≤ r ∧ r ≤ 1114111)) := by
    simp [Utf8.valid]; omega
  have tb : ∀ n : Nat, UInt8.ofNat n = (n : Int).toNat.toUInt8 := fun n => rfl
  unfold Utf8.encode Lib.encodeRune
  by_cases hc : Utf8.valid (r : Int) = true
  · have hv' := hv.1 hc
    simp only [hc, if_true, Int.toNat_natCast]
    by_cases c1 : r < 128
    · rw [if_pos c1, Lib.encodeRuneZ_one (by omega) (by omega)]; rfl
    · rw [if_neg c1]
      by_cases c2 : r < 2048
      · rw [if_pos c2, Lib.encodeRuneZ_two (by omega) (by omega)]
        simp only [List.map_cons, List.map_nil]
        congr 2
      · rw [if_neg c2]
        by_cases c3 : r < 65536
        · rw [if_pos c3, Lib.encodeRuneZ_three (by omega)]
          rfl
        · rw [if_neg c3, Lib.encodeRuneZ_four (by omega) (by omega)]
          rfl
  · have hv' : ¬ (r < 55296 ∨ (57344 ≤ r ∧ r ≤ 1114111)) := fun e => hc (hv.2 e)
    have hc' : Utf8.valid (r : Int) = false := by simpa using hc
    simp only [hc', Bool.false_eq_true, if_false]
    rw [Lib.encodeRuneZ_bad (by omega)]
    rfl
def okRune (r : Nat) : Prop := r < 55296 ∨ (57344 ≤ r ∧ r ≤ 1114111)
theorem get_list (l : List UInt8) (j : Nat) (h : j < l.length) : (⟨l.toArray⟩ : ByteArray).get! j = l[j] := by
  show (l.toArray)[j]! = l[j]
  simp [h]
theorem get_mid (p e q : List UInt8) (k : Nat) (h : k < e.length) : (⟨(p ++ e ++ q).toArray⟩ : ByteArray).get! (p.length + k) = e[k] := by
  rw [get_list _ _ (by simp; omega)]
  simp [List.getElem_append, h]
theorem b8 (n : Nat) (h : n < 256) : ((n : Int).toNat.toUInt8).toNat = n := by
  simp [Nat.toUInt8, UInt8.toNat_ofNat']; omega
theorem decode_enc (p q : List UInt8) (r : Nat) (hv : okRune r) :
    Utf8.decode ⟨(p ++ Lib.encodeRune (r : Int) ++ q).toArray⟩ p.length = (r, (Lib.encodeRune (r : Int)).length) := by
  obtain ⟨e, he⟩ : ∃ e, e = Lib.encodeRune (r : Int) := ⟨_, rfl⟩
  rw [← he]
  have hsz : (⟨(p ++ e ++ q).toArray⟩ : ByteArray).size = p.length + e.length + q.length := by simp [ByteArray.size]; omega
  have hval : Utf8.valid (r : Int) = true := by
    unfold okRune at hv; simp [Utf8.valid]; omega
  unfold okRune at hv
  by_cases c1 : r ≤ 127
  · have h1 : e = [(r : Int).toNat.toUInt8] := by rw [he]; simp [Lib.encodeRune, Lib.encodeRuneZ_one (show (0 : Int) ≤ r by omega) (by omega)]
    have g0 := get_mid p e q 0 (by rw [h1]; simp)
    have e0 : (e[0]'(by rw [h1]; simp)).toNat = r := by simp only [h1, List.getElem_cons_zero]; exact b8 r (by omega)
    have hlen : e.length = 1 := by rw [h1]; rfl
    simp only [Utf8.decode, g0, e0]
    rw [if_pos (by omega), hlen]
  · by_cases c2 : r ≤ 2047
    · have h1 : e = [((192 + (r / 64 : Nat) : Nat) : Int).toNat.toUInt8, ((128 + (r % 64 : Nat) : Nat) : Int).toNat.toUInt8] := by
        rw [he]; simp only [Lib.encodeRune, Lib.encodeRuneZ_two (show (128 : Int) ≤ r by omega) (by omega)]
        simp only [List.map_cons, List.map_nil]; rfl
      have hlen : e.length = 2 := by rw [h1]; rfl
      have g0 := get_mid p e q 0 (by omega)
      have g1 := get_mid p e q 1 (by omega)
      have e0 : (e[0]'(by omega)).toNat = 192 + r / 64 := by simp only [h1, List.getElem_cons_zero]; exact b8 _ (by omega)
      have e1 : (e[1]'(by omega)).toNat = 128 + r % 64 := by simp only [h1, List.getElem_cons_succ, List.getElem_cons_zero]; exact b8 _ (by omega)
      have hr : (192 + r / 64) % 32 * 64 + (128 + r % 64) % 64 = r := by omega
      simp only [Utf8.decode, g0, e0, g1, e1, hsz, hlen, hr]
      rw [if_neg (by omega), if_pos (by simp; omega), if_pos (by omega)]
    · by_cases c3 : r ≤ 65535
      · have h1 : e = [((224 + (r / 4096 : Nat) : Nat) : Int).toNat.toUInt8, ((128 + (r / 64 % 64 : Nat) : Nat) : Int).toNat.toUInt8, ((128 + (r % 64 : Nat) : Nat) : Int).toNat.toUInt8] := by
          rw [he]; simp only [Lib.encodeRune, Lib.encodeRuneZ_three (r := (r : Int)) (by omega)]
          simp only [List.map_cons, List.map_nil]; rfl
        have hlen : e.length = 3 := by rw [h1]; rfl
        have g0 := get_mid p e q 0 (by omega)
        have g1 := get_mid p e q 1 (by omega)
        have g2 := get_mid p e q 2 (by omega)
        have e0 : (e[0]'(by omega)).toNat = 224 + r / 4096 := by simp only [h1, List.getElem_cons_zero]; exact b8 _ (by omega)
        have e1 : (e[1]'(by omega)).toNat = 128 + r / 64 % 64 := by simp only [h1, List.getElem_cons_succ, List.getElem_cons_zero]; exact b8 _ (by omega)
        have e2 : (e[2]'(by omega)).toNat = 128 + r % 64 := by simp only [h1, List.getElem_cons_succ, List.getElem_cons_zero]; exact b8 _ (by omega)
        have hr : (224 + r / 4096) % 16 * 4096 + (128 + r / 64 % 64) % 64 * 64 + (128 + r % 64) % 64 = r := by omega
        simp only [Utf8.decode, g0, e0, g1, e1, g2, e2, hsz, hlen, hr, hval]
        rw [if_neg (by omega), if_neg (by simp; omega), if_pos (by simp; omega), if_pos (by simp; omega)]
      · have h1 : e = [((240 + (r / 262144 : Nat) : Nat) : Int).toNat.toUInt8, ((128 + (r / 4096 % 64 : Nat) : Nat) : Int).toNat.toUInt8, ((128 + (r / 64 % 64 : Nat) : Nat) : Int).toNat.toUInt8, ((128 + (r % 64 : Nat) : Nat) : Int).toNat.toUInt8] := by
          rw [he]; simp only [Lib.encodeRune, Lib.encodeRuneZ_four (r := (r : Int)) (by omega) (by omega)]
          simp only [List.map_cons, List.map_nil]; rfl
        have hlen : e.length = 4 := by rw [h1]; rfl
        have g0 := get_mid p e q 0 (by omega)
        have g1 := get_mid p e q 1 (by omega)
        have g2 := get_mid p e q 2 (by omega)
        have g3 := get_mid p e q 3 (by omega)
        have e0 : (e[0]'(by omega)).toNat = 240 + r / 262144 := by simp only [h1, List.getElem_cons_zero]; exact b8 _ (by omega)
        have e1 : (e[1]'(by omega)).toNat = 128 + r / 4096 % 64 := by simp only [h1, List.getElem_cons_succ, List.getElem_cons_zero]; exact b8 _ (by omega)
        have e2 : (e[2]'(by omega)).toNat = 128 + r / 64 % 64 := by simp only [h1, List.getElem_cons_succ, List.getElem_cons_zero]; exact b8 _ (by omega)
        have e3 : (e[3]'(by omega)).toNat = 128 + r % 64 := by simp only [h1, List.getElem_cons_succ, List.getElem_cons_zero]; exact b8 _ (by omega)
        have hr : (240 + r / 262144) % 8 * 262144 + (128 + r / 4096 % 64) % 64 * 4096 + (128 + r / 64 % 64) % 64 * 64 + (128 + r % 64) % 64 = r := by omega
        simp only [Utf8.decode, g0, e0, g1, e1, g2, e2, g3, e3, hsz, hlen, hr, hval]
        rw [if_neg (by omega), if_neg (by simp; omega), if_neg (by simp; omega), if_pos (by simp; omega), if_pos (by simp; omega)]
theorem signs_enc_from (q : List Nat) : ∀ (p : List UInt8) (b : Nat), (∀ r ∈ q, okRune r) → (encL q).length ≤ b → sg ⟨(p ++ encL q).toArray⟩ b p.length = q := by
  induction q with
  | nil =>
    intro p b _ _
    exact sg_end _ _ _ (by simp [encL, ByteArray.size])
  | cons r q ih =>
    intro p b hq hb
    have hpos : 1 ≤ (Lib.encodeRune (r : Int)).length := by
      have := Lib.runeCells_le (r : Int); rw [Lib.runeCells_length] at this; exact this.1
    rw [encL_cons] at hb ⊢
    rw [List.length_append] at hb
    obtain ⟨b', rfl⟩ : ∃ b', b = b' + 1 := ⟨b - 1, by omega⟩
    have hsz : p.length < (⟨(p ++ (Lib.encodeRune (r : Int) ++ encL q)).toArray⟩ : ByteArray).size := by simp [ByteArray.size]; omega
    have hdec := decode_enc p (encL q) r (hq r (by simp))
    rw [List.append_assoc] at hdec
    unfold sg
    rw [if_pos hsz, hdec]
    have ih' := ih (p ++ Lib.encodeRune (r : Int)) b' (fun x hx => hq x (by simp [hx])) (by omega)
    rw [List.append_assoc, List.length_append] at ih'
    rw [ih']
theorem signs_enc (q : List Nat) (h : ∀ r ∈ q, okRune r) : signs ⟨(encL q).toArray⟩ = q := by
  have := signs_enc_from q [] (encL q).length h (Nat.le_refl _)
  simpa [signs, ByteArray.size] using this
theorem decode_okRune (s : ByteArray) (pos : Nat) : okRune (Utf8.decode s pos).1 := by
  have h1 : ∀ k, (s.get! k).toNat < 256 := fun k => UInt8.toNat_lt _
  unfold Utf8.decode okRune
  dsimp only
  have a0 := h1 (pos + 0)
  simp only [Utf8.runeError]
  repeat' split
  all_goals (try omega)
  all_goals (rename_i hv; simp [Utf8.valid] at hv; simp; omega)
theorem signs_ok (s : ByteArray) : ∀ r ∈ signs s, okRune r := by
  have : ∀ b pos, ∀ r ∈ sg s b pos, okRune r := by
    intro b
    induction b with
    | zero => intro pos r h; simp [sg] at h
    | succ b ih =>
      intro pos r h
      unfold sg at h
      split at h
      · rcases List.mem_cons.1 h with rfl | h
        · exact decode_okRune s pos
        · exact ih _ r h
      · simp at h
  exact this _ _
def Dig (a : List UInt8) : Prop := ∀ x ∈ a, 48 ≤ x.toNat ∧ x.toNat ≤ 57
theorem dgb_dig (r : Nat) (h : 0 ≤ dg (r : Int)) : 48 ≤ (dgb (r : Int)).toNat ∧ (dgb (r : Int)).toNat ≤ 57 := by
  have h1 := dgb_val (r : Int) h
  have h2 := dg_range (r : Int)
  omega
theorem nl_dig : ∀ (l : List Nat) (acc a : List UInt8), nl acc l = some a → Dig acc → acc.length ≤ 12 → Dig a ∧ a.length ≤ 12
  | [], acc, a, h, hd, hl => by simp [nl] at h; subst h; exact ⟨hd, hl⟩
  | r :: rs, acc, a, h, hd, hl => by
    rw [nl_cons] at h
    split at h
    · exact nl_dig rs acc a h hd hl
    · rename_i c2
      split at h
      · cases h
      · rename_i c1
        have := dg_range (r : Int)
        refine nl_dig rs _ a h ?_ (by simp; omega)
        intro x hx
        rcases List.mem_append.1 hx with hx | hx
        · exact hd x hx
        · simp at hx; subst hx; exact dgb_dig r (by omega)
theorem nl_id : ∀ (a acc : List UInt8), Dig a → acc.length + a.length ≤ 12 → nl acc (a.map UInt8.toNat) = some (acc ++ a)
  | [], acc, _, _ => by simp [nl]
  | x :: a, acc, hd, hl => by
    have hx := hd x (by simp)
    have hdg : dg (x.toNat : Int) = x.toNat - 48 := by have := dg_cases (x.toNat : Int); omega
    rw [List.map_cons, nl_cons, if_neg (by omega), if_neg (by simp at hl; omega)]
    have hb : dgb (x.toNat : Int) = x := by
      have := dgb_val (x.toNat : Int) (by omega)
      apply UInt8.toNat_inj.1
      omega
    rw [hb, nl_id a (acc ++ [x]) (fun y hy => hd y (by simp [hy])) (by simp at hl ⊢; omega)]
    simp
theorem enc_ascii : ∀ (a : List UInt8), (∀ x ∈ a, x.toNat ≤ 127) → encL (a.map UInt8.toNat) = a
  | [], _ => rfl
  | x :: a, h => by
    have hx := h x (by simp)
    rw [List.map_cons, encL_cons, enc_ascii a (fun y hy => h y (by simp [hy]))]
    have : Lib.encodeRune (x.toNat : Int) = [x] := by
      simp only [Lib.encodeRune, Lib.encodeRuneZ_one (show (0 : Int) ≤ x.toNat by omega) (by omega), List.map_cons, List.map_nil]
      congr 1
      apply UInt8.toNat_inj.1
      exact b8 _ (UInt8.toNat_lt _)
    rw [this]; rfl
theorem signs_ascii (a : List UInt8) (h : ∀ x ∈ a, x.toNat ≤ 127) : signs ⟨a.toArray⟩ = a.map UInt8.toNat := by
  have := signs_enc (a.map UInt8.toNat) (by
    intro r hr
    obtain ⟨x, hx, rfl⟩ := List.mem_map.1 hr
    have := h x hx
    unfold okRune; omega)
  rwa [enc_ascii a h] at this
theorem nrm_again {l : List Nat} {a : List UInt8} (h : nrm l = some a) : nrm (signs ⟨a.toArray⟩) = some a ∧ signs ⟨a.toArray⟩ = a.map UInt8.toNat ∧ a.length ≤ 12 := by
  unfold nrm at h
  split at h
  · cases h
  · rename_i x hx
    split at h
    · cases h
    · rename_i h4
      simp at h; subst h
      obtain ⟨hd, hl⟩ := nl_dig l [] x hx (by intro y hy; simp at hy) (by simp)
      have hs := signs_ascii x (fun y hy => by have := hd y hy; omega)
      refine ⟨?_, hs, hl⟩
      rw [hs]; unfold nrm
      rw [nl_id x [] hd (by simpa using hl)]
      simp [h4]
theorem encL_size : ∀ l : List Nat, (encL l).length ≤ 4 * l.length
  | [] => by simp [encL]
  | r :: l => by
    have := encL_size l
    have h4 := Lib.runeCells_le (r : Int)
    rw [Lib.runeCells_length] at h4
    rw [encL_cons]; simp; omega
/-- digits as the first script writes them -/
def plainL (ds : List Nat) : List Nat := ds.map (48 + ·)
theorem nl_congr : ∀ (A : List Nat) (X Y : List Nat), (∀ acc, nl acc X = nl acc Y) → ∀ acc, nl acc (A ++ X) = nl acc (A ++ Y)
  | [], X, Y, h, acc => h acc
  | r :: A, X, Y, h, acc => by
    rw [List.cons_append, List.cons_append, nl_cons, nl_cons]
    have ih := nl_congr A X Y h
    split
    · exact ih acc
    · split
      · rfl
      · exact ih _
/-- what the signs lo make is what the digits ds make, whatever stands around -/
def Same (lo ds : List Nat) : Prop := ∀ acc rest, nl acc (lo ++ rest) = nl acc (plainL ds ++ rest)
theorem same_nil : Same [] [] := fun _ _ => rfl
theorem dgb_of (r : Nat) (d : Nat) (hd : d ≤ 9) (h : dg (r : Int) = d) : dgb (r : Int) = dgb ((48 + d : Nat) : Int) ∧ dg ((48 + d : Nat) : Int) = d := by
  have h2 : dg ((48 + d : Nat) : Int) = d := by have := dg_cases ((48 + d : Nat) : Int); omega
  refine ⟨?_, h2⟩
  unfold dgb; rw [h, h2]
theorem same_step (lo ds : List Nat) (sep : List Nat) (r d : Nat) (h : Same lo ds) (hs : sep = [] ∨ sep = [32] ∨ sep = [45] ∨ sep = [160]) (hd : d ≤ 9) (hr : dg (r : Int) = d) : Same (lo ++ (sep ++ [r])) (ds ++ [d]) := by
  intro acc rest
  have e1 : lo ++ (sep ++ [r]) ++ rest = lo ++ (sep ++ r :: rest) := by simp
  have e2 : plainL (ds ++ [d]) ++ rest = plainL ds ++ ((48 + d) :: rest) := by simp [plainL]
  rw [e1, e2, h acc (sep ++ r :: rest)]
  refine nl_congr _ _ _ (fun a => ?_) acc
  obtain ⟨hb, hd2⟩ := dgb_of r d hd hr
  have core : nl a (r :: rest) = nl a ((48 + d) :: rest) := by
    rw [nl_cons, nl_cons, hb, hr, hd2]
  have skip : ∀ c : Nat, dg (c : Int) = -2 → nl a (c :: r :: rest) = nl a (r :: rest) := fun c hc => by rw [nl_cons, if_pos hc]
  rcases hs with rfl | rfl | rfl | rfl
  · exact core
  · exact (skip 32 (by decide)).trans core
  · exact (skip 45 (by decide)).trans core
  · exact (skip 160 (by decide)).trans core
theorem same_nrm (lo ds : List Nat) (h : Same lo ds) : nrm lo = nrm (plainL ds) := by
  have := h [] []
  simp only [List.append_nil] at this
  unfold nrm; rw [this]
/-- the digits as bytes -/
def digB (ds : List Nat) : List UInt8 := ds.map fun d => (48 + d).toUInt8
theorem digB_nat (ds : List Nat) (h : ∀ d ∈ ds, d ≤ 9) : (digB ds).map UInt8.toNat = plainL ds := by
  unfold digB plainL
  rw [List.map_map]
  apply List.map_congr_left
  intro d hd
  have := h d hd
  simp [Nat.toUInt8, UInt8.toNat_ofNat']; omega
theorem digB_dig (ds : List Nat) (h : ∀ d ∈ ds, d ≤ 9) : Dig (digB ds) := by
  intro x hx
  obtain ⟨d, hd, rfl⟩ := List.mem_map.1 hx
  have := h d hd
  have e : (48 + d).toUInt8.toNat = 48 + d := by simp [Nat.toUInt8, UInt8.toNat_ofNat']; omega
  omega
theorem nl_long : ∀ (a acc : List UInt8), Dig a → acc.length ≤ 12 → 12 < acc.length + a.length → nl acc (a.map UInt8.toNat) = none
  | [], acc, _, h1, h2 => by simp at h2; omega
  | x :: a, acc, hd, h1, h2 => by
    have hx := hd x (by simp)
    have hdg : dg (x.toNat : Int) = x.toNat - 48 := by have := dg_cases (x.toNat : Int); omega
    rw [List.map_cons, nl_cons, if_neg (by omega)]
    by_cases h12 : acc.length = 12
    · rw [if_pos (.inr h12)]
    · rw [if_neg (by omega)]
      exact nl_long a _ (fun y hy => hd y (by simp [hy])) (by simp; omega) (by simp at h2 ⊢; omega)
theorem nrm_plain (ds : List Nat) (h : ∀ d ∈ ds, d ≤ 9) : nrm (plainL ds) = if 4 ≤ ds.length ∧ ds.length ≤ 12 then some (digB ds) else none := by
  rw [← digB_nat ds h]
  have hl : (digB ds).length = ds.length := by simp [digB]
  unfold nrm
  by_cases h12 : ds.length ≤ 12
  · rw [nl_id (digB ds) [] (digB_dig ds h) (by simp; omega)]
    by_cases h4 : 4 ≤ ds.length
    · simp [hl, h4, h12, Nat.not_lt.2 h4]
    · simp [hl, h4]
  · rw [nl_long (digB ds) [] (digB_dig ds h) (by simp) (by simp; omega)]
    simp [h12]
theorem plain_bytes (ds : List Nat) (h : ∀ d ∈ ds, d ≤ 9) : encL (plainL ds) = digB ds := by
  rw [← digB_nat ds h]
  exact enc_ascii _ (fun x hx => by have := digB_dig ds h x hx; omega)
theorem plain_ok (ds : List Nat) (h : ∀ d ∈ ds, d ≤ 9) : ∀ r ∈ plainL ds, okRune r := by
  intro r hr
  obtain ⟨d, hd, rfl⟩ := List.mem_map.1 hr
  have := h d hd
  unfold okRune; omega
theorem encode_str (r : Nat) (h : r ≤ 1114111) : Utf8.encode (r : Int) = ⟨(encL [r]).toArray⟩ := by
  rw [encode_ok r h]; simp [encL]
theorem str_append (a b : List UInt8) : (⟨a.toArray⟩ : ByteArray) ++ ⟨b.toArray⟩ = ⟨(a ++ b).toArray⟩ := ByteArray.mk_append_mk a b
end Go.Proofs.Ytkneeocicbadjaa
