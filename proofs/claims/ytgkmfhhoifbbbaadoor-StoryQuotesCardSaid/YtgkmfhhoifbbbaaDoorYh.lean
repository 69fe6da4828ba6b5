/- The cursor's verb and number: what they tell of any line. -/
import Derived.Test.YtgkmfhhoifbbbaaDoorYg
namespace Go.Proofs.YtgkmfhhoifbbbaaDoor
open Go Go.RowKit
def verbI (zs : List ByteArray) (r : List UInt8) : Int := Lib.idxOfS zs ⟨(tw (blankR r)).toArray⟩
set_option maxHeartbeats 2000000 in
set_option maxRecDepth 100000 in
theorem verb_any (b g : Nat) (zs : List ByteArray) (first : Nat) (hf : first ≤ 1000) (r : List UInt8) (x : Bool) (w : World) (h : LN b r x w) (hn : zs.length ≤ 1000) (hg : g < w.heap.size) (hgb : g ≠ b)
    (hz : ∀ j, j < zs.length → w.cell? ⟨g, 0 + j, none⟩ = some (.string (zs.getD j ByteArray.empty))) (hi : verbI zs r < 1000) :
    Calls Tryd.prog 47 #[.pointer (some ⟨b, 0, none⟩), .slice (some ⟨g, 0, none⟩) zs.length zs.length, .int .i64 (first : Int)] w fun e w' =>
      e = .returned (.int .i64 (if verbI zs r < 0 then 0 else (first : Int) + verbI zs r)) ∧ LN b (dw (blankR r)) (x || !isB r || decide (verbI zs r < 0)) w' ∧ Tk b w w' := by
  have hw := word_any b r x w h
  obtain ⟨v, hv⟩ : ∃ v, v = verbI zs r := ⟨_, rfl⟩
  have hv2 : Lib.idxOfS (zs.take zs.length) ⟨(tw (blankR r)).toArray⟩ = v := by rw [List.take_length, hv]; rfl
  rw [← hv] at hi ⊢
  clear hv
  obtain ⟨W, hW⟩ : ∃ W : List UInt8, W = tw (blankR r) := ⟨_, rfl⟩
  obtain ⟨R, hR⟩ : ∃ R : List UInt8, R = dw (blankR r) := ⟨_, rfl⟩
  obtain ⟨y, hy⟩ : ∃ y : Bool, y = (x || !isB r) := ⟨_, rfl⟩
  rw [← hW, ← hR, ← hy] at hw
  rw [← hR, ← hy]
  rw [← hW] at hv2
  clear hW hR hy
  have HV := Lib.hid hv2
  clear hv2
  by_cases c : v < 0
  · have g1 : decide (v < 0) = true := decide_eq_true c
    rw [if_pos c, g1, Bool.or_true]
    go_enter Tryd.func47, Tryd.ntmps47
    go_wp2_with (first
      | (go_at_call 69; refine hw.mono ?_; rintro e w1 ⟨rfl, h1, k1⟩; have c0 := h1.c0; have f1 := h1.fz 1; have c1 := h1.c1)
      | (go_at_call 68; refine (Tryd.slices_Index_string g 0 zs.length zs.length zs _ _ (Nat.le_refl _) (by omega) (fun j hj => by rw [k1.cell hg hgb]; exact hz j hj)).mono ?_; rintro e w1 ⟨rfl, rfl⟩; rw [HV.out]))
    go_ret
    exact ⟨rfl, h1.set1, k1.set _ _⟩
  · have g1 : decide (v < 0) = false := decide_eq_false c
    rw [if_neg c, g1, Bool.or_false]
    go_enter Tryd.func47, Tryd.ntmps47
    go_wp2_with (first
      | (go_at_call 69; refine hw.mono ?_; rintro e w1 ⟨rfl, h1, k1⟩; have c0 := h1.c0; have f1 := h1.fz 1; have c1 := h1.c1)
      | (go_at_call 68; refine (Tryd.slices_Index_string g 0 zs.length zs.length zs _ _ (Nat.le_refl _) (by omega) (fun j hj => by rw [k1.cell hg hgb]; exact hz j hj)).mono ?_; rintro e w1 ⟨rfl, rfl⟩; rw [HV.out]))
    go_ret
    exact ⟨rfl, h1, k1⟩
/-- what the digits from here on make; none: they are no number -/
def numGo : Bool → Nat → List UInt8 → Option Nat
  | _, n, [] => if 65535 < n then none else some n
  | fst, n, c :: t => if 9 < (c - 48).toNat ∨ (fst = false ∧ n = 0) ∨ 65535 < n then none else numGo false (10 * n + (c - 48).toNat) t
def numF (l : List UInt8) : Option Nat := if l = [] then none else numGo true 0 l
theorem u8_sub (c : UInt8) : ((c - 48).toNat : Int) = ((c.toNat : Int) - 48) % 256 := by
  have h := c.toNat_lt
  rw [UInt8.toNat_sub]
  simp
  omega
theorem bad_end {W R : List UInt8} {y : Bool} {b : Nat} {w wr : World} (e0 : numF W = none) (h1 : LN b R y wr) (k1 : Tk b w wr) :
    Ending.returned (.int .i64 0) = .returned (.int .i64 (((numF W).getD 0 : Nat) : Int)) ∧ LN b R (y || (numF W).isNone) (wr.setCell ⟨b, 1, none⟩ (.bool true)) ∧ Tk b w (wr.setCell ⟨b, 1, none⟩ (.bool true)) := by
  rw [e0]
  exact ⟨rfl, by simpa using h1.set1 (x' := true), k1.set _ _⟩
set_option maxHeartbeats 2000000 in
set_option maxRecDepth 100000 in
theorem number_any (b : Nat) (r : List UInt8) (x : Bool) (w : World) (h : LN b r x w) (hs : (tw (blankR r)).length ≤ 1099511627776) :
    Calls Tryd.prog 49 #[.pointer (some ⟨b, 0, none⟩)] w fun e w' =>
      e = .returned (.int .i64 (((numF (tw (blankR r))).getD 0 : Nat) : Int)) ∧ LN b (dw (blankR r)) (x || !isB r || (numF (tw (blankR r))).isNone) w' ∧ Tk b w w' := by
  have hw := word_any b r x w h
  obtain ⟨W, hW⟩ : ∃ W : List UInt8, W = tw (blankR r) := ⟨_, rfl⟩
  obtain ⟨R, hR⟩ : ∃ R : List UInt8, R = dw (blankR r) := ⟨_, rfl⟩
  obtain ⟨y, hy⟩ : ∃ y : Bool, y = (x || !isB r) := ⟨_, rfl⟩
  rw [← hW, ← hR, ← hy] at hw
  rw [← hW, ← hR, ← hy]
  rw [← hW] at hs
  clear hW hR hy
  have hsz := size_mk W
  go_enter Tryd.func49, Tryd.ntmps49
  go_wp2_with (first
    | (go_at_call 69; refine hw.mono ?_; rintro e w1 ⟨rfl, h1, k1⟩; have c0 := h1.c0; have f1 := h1.fz 1; have hc1 := h1.c1))
  obtain ⟨F, hF⟩ : ∃ F, F = numGo true 0 W := ⟨_, rfl⟩
  have HF := Lib.hid hF
  have hsz1 := k1.size
  go_loopw [4, 11] (fun n i wr => ∃ k m : Nat, i = .int .i64 (k : Int) ∧ n = .int .i64 (m : Int) ∧ k ≤ W.length ∧ numGo (k == 0) m (W.drop k) = F ∧ m ≤ 655369 ∧ (k = 0 → m = 0) ∧ wr = w1)
    (fun _ i _ => match i with | .int _ z => W.length - z.toNat | _ => 0)
  case atStart => exact ⟨0, 0, rfl, rfl, by omega, by simpa using hF.symm, by omega, fun _ => rfl, rfl⟩
  case round =>
    obtain ⟨k, m, rfl, rfl, hk, hg, hm, hz, rfl⟩ := hrel
    by_cases hlt : k < W.length
    · have i1 : (k : Int) < (W.length : Int) := by omega
      have hne : W ≠ [] := by intro e; rw [e] at hlt; simp at hlt
      have hnF : numF W = F := by unfold numF; rw [if_neg hne, HF.out]
      have hdrop : W.drop k = W[k] :: W.drop (k + 1) := List.drop_eq_getElem_cons hlt
      obtain ⟨d, hd⟩ : ∃ d, d = (W[k] - 48).toNat := ⟨_, rfl⟩
      have hx : ((((⟨W.toArray⟩ : ByteArray)[k]'(by rw [hsz]; exact hlt)).toNat : Int) - 48) % 256 = (d : Int) := by
        rw [hd, u8_sub]; rfl
      have hd256 : d < 256 := by rw [hd]; exact UInt8.toNat_lt _
      have hst : numGo (k == 0) m (W.drop k) = if 9 < d ∨ ((k == 0) = false ∧ m = 0) ∨ 65535 < m then none else numGo false (10 * m + d) (W.drop (k + 1)) := by
        rw [hdrop, hd]; rfl
      rw [hst] at hg
      have HG := Lib.hid hg
      clear hst hg hdrop hd hF
      have bad : (9 < d ∨ ((k == 0) = false ∧ m = 0) ∨ 65535 < m) → numF W = none := fun hb => by rw [hnF, ← HG.out, if_pos hb]
      have BAD := Lib.hid bad
      clear bad hnF
      by_cases p1 : 9 < d
      · have e0 := BAD.out (.inl p1)
        have g1 : (9 : Int) < (d : Int) := by omega
        have E0 := Lib.hid e0
        clear p1 e0
        go_wp2
        go_ret
        exact bad_end E0.out h1 k1
      have g1 : ¬ (9 : Int) < (d : Int) := by omega
      by_cases p2 : 0 < k ∧ m = 0
      · have e0 := BAD.out (.inr (.inl ⟨by simp; omega, p2.2⟩))
        have g2 : (0 : Int) < (k : Int) := by omega
        have g3 : ((m : Int) == 0) = true := by simp [p2.2]
        have E0 := Lib.hid e0
        clear p1 p2 e0
        go_wp2
        go_ret
        exact bad_end E0.out h1 k1
      by_cases p3 : 65535 < m
      · have e0 := BAD.out (.inr (.inr p3))
        have g4 : (65535 : Int) < (m : Int) := by omega
        have g3 : ((m : Int) == 0) = false := by rw [beq_eq_false_iff_ne]; omega
        have E0 := Lib.hid e0
        clear p1 p2 e0
        by_cases q : 0 < k
        · have g2 : (0 : Int) < (k : Int) := by omega
          go_wp2
          go_ret
          exact bad_end E0.out h1 k1
        · exact absurd (hz (by omega)) (by omega)
      have g4 : ¬ (65535 : Int) < (m : Int) := by omega
      have hnb : ¬ (9 < d ∨ ((k == 0) = false ∧ m = 0) ∨ 65535 < m) := by
        rintro (h' | ⟨h', h''⟩ | h')
        · exact p1 h'
        · exact p2 ⟨by simp at h'; omega, h''⟩
        · exact p3 h'
      have hn := HG.out
      rw [if_neg hnb] at hn
      have HN := Lib.hid hn
      clear hn hnb
      have done : ∃ k' m' : Nat, Value.int IntKind.i64 ((k : Int) + 1) = .int .i64 (k' : Int) ∧ Value.int IntKind.i64 (10 * (m : Int) + (d : Int)) = .int .i64 (m' : Int) ∧ k' ≤ W.length ∧ numGo (k' == 0) m' (W.drop k') = F ∧ m' ≤ 655369 ∧ (k' = 0 → m' = 0) :=
        ⟨k + 1, 10 * m + d, by simp, by simp, by omega, HN.out, by omega, by omega⟩
      have DONE := Lib.hid done
      clear done
      by_cases q : 0 < k
      · have g2 : (0 : Int) < (k : Int) := by omega
        have g3 : ((m : Int) == 0) = false := by rw [beq_eq_false_iff_ne]; omega
        clear p1 p2 p3
        go_wp2
        go_roundw
        case rel => obtain ⟨k', m', a1, a2, a3, a4, a5, a6⟩ := DONE.out; exact ⟨k', m', a1, a2, a3, a4, a5, a6, trivial⟩
        case measure => simp; omega
      · have g2 : ¬ (0 : Int) < (k : Int) := by omega
        clear p1 p2 p3
        go_wp2
        go_roundw
        case rel => obtain ⟨k', m', a1, a2, a3, a4, a5, a6⟩ := DONE.out; exact ⟨k', m', a1, a2, a3, a4, a5, a6, trivial⟩
        case measure => simp; omega
    · have i1 : ¬ (k : Int) < (W.length : Int) := by omega
      have hkk : k = W.length := by omega
      rw [hkk, List.drop_length] at hg
      by_cases hne : W = []
      · subst hne
        have e0 : numF [] = none := rfl
        have E0 := Lib.hid e0
        clear hF hg e0 hkk HF
        go_wp2
        go_ret
        exact bad_end E0.out h1 k1
      · have hnF : numF W = F := by unfold numF; rw [if_neg hne, HF.out]
        have g5 : (W == []) = false := by simpa using hne
        have g6 : W.isEmpty = false := by simpa using hne
        by_cases p3 : 65535 < m
        · have e0 : numF W = none := by rw [hnF, ← hg]; simp [numGo, p3]
          have g4 : (65535 : Int) < (m : Int) := by omega
          have E0 := Lib.hid e0
          clear hF hg e0 hkk HF hnF
          go_wp2
          go_ret
          exact bad_end E0.out h1 k1
        · have e0 : numF W = some m := by rw [hnF, ← hg]; simp [numGo, p3]
          have g4 : ¬ (65535 : Int) < (m : Int) := by omega
          have E0 := Lib.hid e0
          clear hF hg e0 hkk HF hnF
          go_wp2
          go_ret
          rw [E0.out]
          exact ⟨rfl, by simpa using h1, k1⟩
end Go.Proofs.YtgkmfhhoifbbbaaDoor
