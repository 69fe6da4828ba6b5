/- StoryQuotes, walked: what is quoted has no newline and no quote but at its ends and behind a backslash, and is unquoted to its signs. -/
import Derived.Test.YtgkmfhhoifbbbaaDoorYq
import Derived.Deep.RegionWith
namespace Go.Proofs.YtgkmfhhoifbbbaaDoor
open Go Go.RowKit
/-- no newline; a quote only behind a backslash -/
def GoodQ (l : List UInt8) : Prop := ∀ j : Nat, l[j]? ≠ some 10 ∧ (l[j]? = some 34 → 1 ≤ j ∧ l[j - 1]? = some 92)
theorem GoodQ.app {a b : List UInt8} (ha : GoodQ a) (hb : GoodQ b) : GoodQ (a ++ b) := by
  intro j
  by_cases h : j < a.length
  · rw [List.getElem?_append_left h, List.getElem?_append_left (by omega)]
    exact ha j
  · rw [List.getElem?_append_right (by omega)]
    obtain ⟨h1, h2⟩ := hb (j - a.length)
    refine ⟨h1, fun e => ?_⟩
    obtain ⟨h3, h4⟩ := h2 e
    refine ⟨by omega, ?_⟩
    rw [List.getElem?_append_right (by omega), show j - 1 - a.length = j - a.length - 1 from by omega]
    exact h4
theorem good_big {l : List UInt8} (h : ∀ x ∈ l, x ≠ 10 ∧ x ≠ 34) : GoodQ l := by
  intro j
  refine ⟨fun e => (h 10 (List.mem_of_getElem? e)).1 rfl, fun e => absurd rfl (h 34 (List.mem_of_getElem? e)).2⟩
theorem enc_high (r : Nat) (h : 128 ≤ r) : ∀ x ∈ Lib.encodeRune (r : Int), x ≠ 10 ∧ x ≠ 34 := by
  intro x hx
  unfold Lib.encodeRune at hx
  obtain ⟨z, hz, rfl⟩ := List.mem_map.1 hx
  have hb := Lib.encodeRuneZ_byte (r : Int) z hz
  have h128 : 128 ≤ z := by
    unfold Lib.encodeRuneZ at hz
    rw [if_neg (by omega)] at hz
    split at hz
    · simp at hz; omega
    · split at hz
      · simp at hz; omega
      · split at hz
        · simp at hz; omega
        · simp at hz; omega
  have hv : (z.toNat.toUInt8).toNat = z.toNat := by simp [Nat.toUInt8, UInt8.toNat_ofNat']; omega
  constructor
  · intro e; rw [e] at hv; simp at hv; omega
  · intro e; rw [e] at hv; simp at hv; omega
theorem good_qr (r : Nat) : GoodQ (qr r) := by
  have two : ∀ x : UInt8, x ≠ 10 → GoodQ [92, x] := by
    intro x hx j
    match j with
    | 0 => simp
    | 1 => simpa using hx
    | j + 2 => simp
  unfold qr
  split
  · exact two 34 (by decide)
  · split
    · exact two 92 (by decide)
    · split
      · exact two 110 (by decide)
      · rename_i h1 h2 h3
        by_cases h : r ≤ 127
        · rw [enc_ascii1 r h]
          refine good_big fun x hx => ?_
          simp at hx
          subst hx
          have hv : (UInt8.ofNat r).toNat = r := by simp [UInt8.toNat_ofNat']; omega
          constructor
          · intro e; rw [e] at hv; simp at hv; omega
          · intro e; rw [e] at hv; simp at hv; omega
        · exact good_big (enc_high r (by omega))
theorem good_qrs : ∀ l : List Nat, GoodQ (qrs l)
  | [] => by intro j; simp [qrs]
  | r :: l => by rw [qrs_cons]; exact (good_qr r).app (good_qrs l)
theorem enc_inj {a b : List Nat} (ha : okRunes a) (hb : okRunes b) (h : encL a = encL b) : a = b := by
  rw [← signs_enc a ha, h, signs_enc b hb]
set_option maxHeartbeats 2000000 in
set_option maxRecDepth 100000 in
theorem cut30_any (s : ByteArray) (w : World) : Calls Tryd.prog 14 #[.string s] w fun e w' => (∃ t : ByteArray, e = .returned (.string t) ∧ t.size ≤ 30) ∧ w' = w := by
  by_cases h : 30 < s.size
  · have i1 : (30 : Int) < (s.size : Int) := by omega
    have i2 : (30 : Int) ≤ (s.size : Int) := by omega
    go_enter Tryd.func14, Tryd.ntmps14
    go_wp2
    go_ret
    exact ⟨⟨s.extract 0 30, rfl, by rw [ByteArray.size_extract]; omega⟩, rfl⟩
  · have i1 : ¬ (30 : Int) < (s.size : Int) := by omega
    go_enter Tryd.func14, Tryd.ntmps14
    go_wp2
    go_ret
    exact ⟨⟨s, rfl, by omega⟩, rfl⟩
theorem unq_self (A : List Nat) (h : okRunes A) : unquoteV (quoteL A) = .tuple #[.string ⟨(encL A).toArray⟩, .bool true] := by
  have := quotedF_q A [] h
  rw [List.append_nil] at this
  unfold unquoteV
  rw [this]
  simp
set_option maxHeartbeats 8000000 in
set_option maxRecDepth 100000 in
theorem quotes28_any (a0 b0 : ByteArray) (w : World) : Calls Tryd.prog 5 #[.string a0, .string b0] w fun e w' => e = .returned (.bool true) ∧ Below w.heap.size w w' := by
  have tok1 : True := trivial
  go_enter Tryd.func5, Tryd.ntmps5
  go_wp2_with (first
    | (go_at_call 14; have _t := tok1; refine (cut30_any _ _).mono ?_; clear tok1 _t; rintro e w ⟨⟨a, rfl, ha⟩, rfl⟩)
    | (go_at_call 14; refine (cut30_any _ _).mono ?_; rintro e w ⟨⟨b, rfl, hb⟩, rfl⟩))
  obtain ⟨A, hA⟩ : ∃ A, A = signs a := ⟨_, rfl⟩
  obtain ⟨Bs, hBs⟩ : ∃ Bs, Bs = signs b := ⟨_, rfl⟩
  have okA : okRunes A := by rw [hA]; exact signs_ok a
  have okB : okRunes Bs := by rw [hBs]; exact signs_ok b
  have lA : A.length ≤ 30 := by rw [hA]; have := sg_length a a.size 0; unfold signs; omega
  have lB : Bs.length ≤ 30 := by rw [hBs]; have := sg_length b b.size 0; unfold signs; omega
  have eA := enc_len A
  have eB := enc_len Bs
  have qA := qrs_len A
  have cQa := quote_any a (by omega)
  have cQb := quote_any b (by omega)
  have cSa := signs_str a (by omega)
  have cSb := signs_str b (by omega)
  rw [← hA] at cQa cSa
  rw [← hBs] at cQb cSb
  have cQu := quote_any ⟨(encL A).toArray⟩ (by rw [size_mk]; omega)
  rw [signs_enc A okA] at cQu
  obtain ⟨Q, hQ⟩ : ∃ Q, Q = quoteL A := ⟨_, rfl⟩
  have lQ : 2 ≤ Q.length ∧ Q.length ≤ 1000 := by rw [hQ]; simp [quoteL]; omega
  have cUn := unquote_any ⟨Q.toArray⟩ (by rw [size_mk]; omega)
  rw [show (⟨Q.toArray⟩ : ByteArray).data.toList = quoteL A from by rw [hQ], unq_self A okA] at cUn
  rw [← hQ] at cQa cQu
  have hgq := good_qrs A
  have hQd : Q = 34 :: (qrs A ++ [34]) := by rw [hQ]; rfl
  have HH := Lib.hid (And.intro hQd hgq)
  have HQ := Lib.hid hQ
  have HA := Lib.hid hA
  have HBs := Lib.hid hBs
  have hsz := size_mk Q
  clear hQ hA hBs hgq hQd eA eB qA ha hb
  refine (cQa w).mono ?_
  rintro e w1 ⟨rfl, X1⟩
  have g2 : ¬ ((Q.length : Int) < 2) := by omega
  go_wp2_with (first
    | (go_at_call 16; refine (cUn _).mono ?_; rintro e w2 ⟨rfl, X2⟩)
    | (go_at_call 17; refine (cSa _).mono ?_; rintro e w3 ⟨v3, rfl, X3, S3⟩; have s3 := S3.here))
  have hmid : ∀ m : Nat, m + 2 < Q.length → Q[m + 1]? ≠ some 10 ∧ (Q[m + 1]? = some 34 → Q[m]? = some 92) := by
    intro m hm
    obtain ⟨h1, h2⟩ := HH.out
    have hl : (qrs A).length + 2 = Q.length := by rw [h1]; simp
    have e1 : Q[m + 1]? = (qrs A)[m]? := by rw [h1, List.getElem?_cons_succ, List.getElem?_append_left (by omega)]
    obtain ⟨h3, h4⟩ := h2 m
    rw [e1]
    refine ⟨h3, fun e => ?_⟩
    obtain ⟨h5, h6⟩ := h4 e
    obtain ⟨m', rfl⟩ : ∃ m', m = m' + 1 := ⟨m - 1, by omega⟩
    rw [h1, List.getElem?_cons_succ, List.getElem?_append_left (by omega)]
    simpa using h6
  have HM := Lib.hid hmid
  clear hmid g2
  go_loopw [8] (fun i wr => ∃ m : Nat, i = .int .i64 ((m : Int) + 1) ∧ m ≤ 1000 ∧ wr = w3)
    (fun i _ => 2000 - ixOf i)
  case atStart => exact ⟨0, rfl, by omega, rfl⟩
  case round =>
    obtain ⟨m, rfl, hm, rfl⟩ := hrel
    by_cases hlt : m + 2 < Q.length
    · have i1 : (m : Int) + 1 + 1 < (Q.length : Int) := by omega
      obtain ⟨k1, k2⟩ := HM.out m hlt
      obtain ⟨c1, hc1⟩ : ∃ c1 : Nat, ((⟨Q.toArray⟩ : ByteArray)[m + 1]'(by rw [hsz]; omega)).toNat = c1 := ⟨_, rfl⟩
      obtain ⟨c2, hc2⟩ : ∃ c2 : Nat, ((⟨Q.toArray⟩ : ByteArray)[m]'(by rw [hsz]; omega)).toNat = c2 := ⟨_, rfl⟩
      have f1 : Q[m + 1]? = some (UInt8.ofNat c1) := by rw [← hc1, List.getElem?_eq_getElem (by omega)]; simp; rfl
      have f2 : Q[m]? = some (UInt8.ofNat c2) := by rw [← hc2, List.getElem?_eq_getElem (by omega)]; simp; rfl
      have l1 : c1 < 256 := by rw [← hc1]; exact UInt8.toNat_lt _
      have l2 : c2 < 256 := by rw [← hc2]; exact UInt8.toNat_lt _
      rw [f1] at k1 k2
      rw [f2] at k2
      have n10 : ((c1 : Int) == 10) = false := by
        rw [beq_eq_false_iff_ne]
        intro e
        have : c1 = 10 := by omega
        subst this
        exact k1 rfl
      by_cases c34 : c1 = 34
      · have hc92 : c2 = 92 := by
          subst c34
          have h9 := k2 rfl
          have h9 := congrArg UInt8.toNat (Option.some.inj h9)
          simp [UInt8.toNat_ofNat'] at h9
          omega
        have g34 : ((c1 : Int) == 34) = true := by rw [c34]; rfl
        have g92 : ((c2 : Int) != 92) = false := by rw [hc92]; rfl
        clear k1 k2 f1 f2 c34 hc92
        go_wp2
        go_roundw
        case rel => exact ⟨m + 1, by simp, by omega, trivial⟩
        case measure => simp [ixOf]; omega
      · have g34 : ((c1 : Int) == 34) = false := by rw [beq_eq_false_iff_ne]; omega
        clear k1 k2 f1 f2
        go_wp2
        go_roundw
        case rel => exact ⟨m + 1, by simp, by omega, trivial⟩
        case measure => simp [ixOf]; omega
    · have i1 : ¬ (m : Int) + 1 + 1 < (Q.length : Int) := by omega
      by_cases e : A = Bs
      · have g1 : (encL A == encL Bs) = true := by rw [e]; exact beq_self_eq_true _
        have g2 : (quoteL Bs == Q) = true := by rw [HQ.out, e]; exact beq_self_eq_true _
        have g3 : (Q == Q) = true := beq_self_eq_true _
        clear e
        have tok2 : True := trivial
        have tok3 : True := trivial
        have X13 : Ex w wr := Ex.trans (Ex.trans X1 X2) X3
        clear S3 s3 X1 X2 X3
        go_wp2
        go_region_with (first
          | (go_at_call 17; have _t := tok2; refine (cSa _).mono ?_; clear tok2 _t; rintro e w4 ⟨v4, rfl, X4, S4⟩; have a0 := S4.here; have a1 := S4.drew.here; have a2 := S4.drew.drew.here; have a3 := S4.drew.drew.drew.here)
          | (go_at_call 17; refine (cSb _).mono ?_; rintro e w5 ⟨v5, rfl, X5, S5⟩; have b0 := S5.here; have b1 := S5.drew.here; have b2 := S5.drew.drew.here; have b3 := S5.drew.drew.drew.here; have S4' := StrOf.below S4 X5; have c0 := S4'.here; have c1 := S4'.drew.here; have c2 := S4'.drew.drew.here; have c3 := S4'.drew.drew.drew.here))
        all_goals (
          have X14 : Ex w w4 := by first | exact Ex.trans X13 X4 | exact Ex.trans (Below.drew X13) X4 | exact Ex.trans (Below.drew (Below.drew X13)) X4
          have X15 : Ex w w5 := by first | exact Ex.trans X14 X5 | exact Ex.trans (Below.drew X14) X5 | exact Ex.trans (Below.drew (Below.drew X14)) X5 | exact Ex.trans (Below.drew (Below.drew (Below.drew X14))) X5
          clear a0 a1 a2 a3 b0 b1 b2 b3 c0 c1 c2 c3 S4 S5 S4' X13 X4 X5 X14
          go_wp2_with (first
            | (go_at_call 15; have _t := tok3; refine (cQb _).mono ?_; clear tok3 _t; rintro e w6 ⟨rfl, X6⟩)
            | (go_at_call 15; refine (cQu _).mono ?_; rintro e w7 ⟨rfl, X7⟩)
            | (go_at_call 12; refine (known_any _).mono ?_; rintro e w8 ⟨rfl, X8⟩))
          go_ret
          refine ⟨rfl, ?_⟩
          first | exact Ex.trans (Ex.trans (Ex.trans X15 X6) X7) X8 | exact Ex.trans (Ex.trans (Ex.trans (Below.drew X15) X6) X7) X8 | exact Ex.trans (Ex.trans (Ex.trans (Below.drew (Below.drew X15)) X6) X7) X8 | exact Ex.trans (Ex.trans (Ex.trans (Below.drew (Below.drew (Below.drew X15))) X6) X7) X8)
      · have g1 : (encL A == encL Bs) = false := beq_eq_false_iff_ne.2 (fun h => e (enc_inj okA okB h))
        have g2 : (quoteL Bs == Q) = false := beq_eq_false_iff_ne.2 (fun h => e (quote_inj okA okB (by rw [h, HQ.out])))
        have g3 : (Q == Q) = true := beq_self_eq_true _
        clear e
        have tok2 : True := trivial
        have tok3 : True := trivial
        have X13 : Ex w wr := Ex.trans (Ex.trans X1 X2) X3
        clear S3 s3 X1 X2 X3
        go_wp2
        go_region_with (first
          | (go_at_call 17; have _t := tok2; refine (cSa _).mono ?_; clear tok2 _t; rintro e w4 ⟨v4, rfl, X4, S4⟩; have a0 := S4.here; have a1 := S4.drew.here; have a2 := S4.drew.drew.here; have a3 := S4.drew.drew.drew.here)
          | (go_at_call 17; refine (cSb _).mono ?_; rintro e w5 ⟨v5, rfl, X5, S5⟩; have b0 := S5.here; have b1 := S5.drew.here; have b2 := S5.drew.drew.here; have b3 := S5.drew.drew.drew.here; have S4' := StrOf.below S4 X5; have c0 := S4'.here; have c1 := S4'.drew.here; have c2 := S4'.drew.drew.here; have c3 := S4'.drew.drew.drew.here))
        all_goals (
          have X14 : Ex w w4 := by first | exact Ex.trans X13 X4 | exact Ex.trans (Below.drew X13) X4 | exact Ex.trans (Below.drew (Below.drew X13)) X4
          have X15 : Ex w w5 := by first | exact Ex.trans X14 X5 | exact Ex.trans (Below.drew X14) X5 | exact Ex.trans (Below.drew (Below.drew X14)) X5 | exact Ex.trans (Below.drew (Below.drew (Below.drew X14))) X5
          clear a0 a1 a2 a3 b0 b1 b2 b3 c0 c1 c2 c3 S4 S5 S4' X13 X4 X5 X14
          go_wp2_with (first
            | (go_at_call 15; have _t := tok3; refine (cQb _).mono ?_; clear tok3 _t; rintro e w6 ⟨rfl, X6⟩)
            | (go_at_call 15; refine (cQu _).mono ?_; rintro e w7 ⟨rfl, X7⟩)
            | (go_at_call 12; refine (known_any _).mono ?_; rintro e w8 ⟨rfl, X8⟩))
          go_ret
          refine ⟨rfl, ?_⟩
          first | exact Ex.trans (Ex.trans (Ex.trans X15 X6) X7) X8 | exact Ex.trans (Ex.trans (Ex.trans (Below.drew X15) X6) X7) X8 | exact Ex.trans (Ex.trans (Ex.trans (Below.drew (Below.drew X15)) X6) X7) X8 | exact Ex.trans (Ex.trans (Ex.trans (Below.drew (Below.drew (Below.drew X15))) X6) X7) X8)
end Go.Proofs.YtgkmfhhoifbbbaaDoor
