/- SlotsTurns: what disks hold -/
import Derived.Test.YtgoiidpcdifojaaLn
namespace Go.Proofs.Ytgoiidpcdifojaa
open Go.RowKit
open Sm (by8)
def stR (l : List (List UInt8)) : Nat → Dc
  | 0 => zeroC
  | k + 1 => putC (stR l k) k ((l.getD k []).take 30)
theorem stR_len (l : List (List UInt8)) : ∀ k, (stR l k).now.length = 10 ∧ (stR l k).pend = k
  | 0 => ⟨rfl, rfl⟩
  | k + 1 => by
    have h := stR_len l k
    refine ⟨?_, ?_⟩
    · show ((stR l k).now.set _ _).length = 10
      rw [List.length_set]; exact h.1
    · show (stR l k).pend + 1 = _
      rw [h.2]; omega
theorem stR_at (l : List (List UInt8)) : ∀ k, k ≤ 10 → ∀ n, (stR l k).now.getD n (false, []) = if n < k then (true, (l.getD n []).take 30) else (false, [])
  | 0, _, n => by
    rw [if_neg (by omega)]
    show (List.replicate 10 (false, ([] : List UInt8))).getD n (false, []) = _
    rw [List.getD_eq_getElem?_getD, List.getElem?_replicate]
    split <;> rfl
  | k + 1, hk, n => by
    show ((stR l k).now.set k (true, (l.getD k []).take 30)).getD n (false, []) = _
    rw [getD_set, (stR_len l k).1, stR_at l k (by omega) n]
    by_cases h : k = n
    · subst h
      rw [if_pos ⟨rfl, by omega⟩, if_pos (by omega)]
    · rw [if_neg (fun h2 => h h2.1)]
      by_cases h3 : n < k
      · rw [if_pos h3, if_pos (by omega)]
      · rw [if_neg h3, if_neg (by omega)]
theorem xor_all (b : UInt8) : by8 (bits .xor .u8 (b.toNat : Int) 1) ≠ b ∧ by8 (bits .xor .u8 ((by8 (bits .xor .u8 (b.toNat : Int) 1)).toNat : Int) 1) = b ∧ bits .xor .u8 ((by8 (bits .xor .u8 (b.toNat : Int) 1)).toNat : Int) (b.toNat : Int) = 1 := by
  have h : ((List.range 256).all fun n => decide (by8 (bits .xor .u8 (((UInt8.ofNat n).toNat : Nat) : Int) 1) ≠ UInt8.ofNat n ∧ by8 (bits .xor .u8 ((by8 (bits .xor .u8 (((UInt8.ofNat n).toNat : Nat) : Int) 1)).toNat : Int) 1) = UInt8.ofNat n ∧ bits .xor .u8 ((by8 (bits .xor .u8 (((UInt8.ofNat n).toNat : Nat) : Int) 1)).toNat : Int) (((UInt8.ofNat n).toNat : Nat) : Int) = 1)) = true := by decide +kernel
  rw [List.all_eq_true] at h
  have h1 := h b.toNat (by simp; exact b.toNat_lt)
  have e : UInt8.ofNat b.toNat = b := by simp
  rw [e] at h1
  exact of_decide_eq_true h1
theorem flip_at (l : List UInt8) (a : Nat) (h : a < l.length) : (flipA l a).getD a 0 = by8 (bits .xor .u8 ((l.getD a 0).toNat : Int) 1) := by
  unfold flipA
  rw [List.getD_eq_getElem?_getD, List.getElem?_set_self h]; rfl
theorem flip_ne (l : List UInt8) (a : Nat) (h : a < l.length) : flipA l a ≠ l := fun e => by
  have h1 := flip_at l a h
  rw [e] at h1
  exact (xor_all _).1 h1.symm
theorem flip_flip (l : List UInt8) (a : Nat) (h : a < l.length) : flipA (flipA l a) a = l := by
  have h1 := flip_at l a h
  unfold flipA at h1 ⊢
  rw [h1, (xor_all _).2.1, List.set_set]
  apply List.ext_getElem?
  intro i
  rw [List.getElem?_set]
  split
  · rename_i e; subst e
    rw [List.getD_eq_getElem?_getD, List.getElem?_eq_getElem h]; rfl
  · rfl
theorem set_self (l : List (Bool × List UInt8)) (n : Nat) (h : n < l.length) : l.set n (l.getD n (false, [])) = l := by
  apply List.ext_getElem?
  intro i
  rw [List.getElem?_set]
  split
  · rename_i e; subst e
    rw [List.getD_eq_getElem?_getD, List.getElem?_eq_getElem h]; rfl
  · rfl
/-- a Turn, and a second one -/
theorem turn_now (c : Dc) (n a : Nat) (hn : n < c.now.length) (x : Bool × List UInt8) (hx : c.now.getD n (false, []) = x) :
    turnB c n a = decide (a < x.2.length) ∧ (a < x.2.length → (turnC c n a).now = c.now.set n (x.1, flipA x.2 a)) ∧ (¬ a < x.2.length → turnC c n a = c) := by
  refine ⟨?_, fun h => ?_, fun h => ?_⟩
  · unfold turnB; rw [hx, decide_eq_decide]; omega
  · unfold turnC; rw [hx, if_pos (by omega)]; rfl
  · unfold turnC; rw [hx, if_neg (by omega)]
theorem turn_diff (c : Dc) (n a : Nat) (hn : n < c.now.length) (x : Bool × List UInt8) (hx : c.now.getD n (false, []) = x) : decide ((turnC c n a).now = c.now) = !turnB c n a := by
  obtain ⟨h1, h2, h3⟩ := turn_now c n a hn x hx
  rw [h1]
  by_cases h : a < x.2.length
  · rw [h2 h, decide_eq_true h, decide_eq_false]; rfl
    intro e
    have := congrArg (fun l => (l.getD n (false, [])).2) e
    rw [getD_set, if_pos ⟨rfl, hn⟩, hx] at this
    exact flip_ne x.2 a h this
  · rw [h3 h, decide_eq_false h, decide_eq_true rfl]; rfl
theorem turn_twice (c : Dc) (n a : Nat) (hn : n < c.now.length) (x : Bool × List UInt8) (hx : c.now.getD n (false, []) = x) : turnB (turnC c n a) n a = turnB c n a ∧ (turnC (turnC c n a) n a).now = c.now := by
  obtain ⟨h1, h2, h3⟩ := turn_now c n a hn x hx
  by_cases h : a < x.2.length
  · have hg : (turnC c n a).now.getD n (false, []) = (x.1, flipA x.2 a) := by rw [h2 h, getD_set, if_pos ⟨rfl, hn⟩]
    have hl : (flipA x.2 a).length = x.2.length := by unfold flipA; simp
    obtain ⟨k1, k2, _⟩ := turn_now (turnC c n a) n a (by rw [h2 h, List.length_set]; exact hn) _ hg
    refine ⟨by rw [k1, h1, hl], ?_⟩
    rw [k2 (by rw [hl]; exact h), h2 h, flip_flip x.2 a h, List.set_set, ← hx]
    exact set_self _ _ hn
  · rw [h3 h]; exact ⟨rfl, by rw [h3 h]⟩
theorem turn_other (c : Dc) (n a i : Nat) (hi : i ≠ n) : (turnC c n a).now.getD i (false, []) = c.now.getD i (false, []) := by
  unfold turnC
  split
  · show ((c.now.set _ _).getD i _) = _
    rw [getD_set, if_neg (fun h => hi h.1.symm)]
  · rfl
/-- rows of rows of bytes that come in -/
structure Rw where
  ad : Option Addr
  cap : Nat
  l : List Sm.Pt
def Rw.V (q : Rw) : Value := .slice q.ad q.l.length q.cap
structure Rw.In (q : Rw) (w : World) : Prop where
  len : q.l.length ≤ 9223372036854775807
  read : 0 < q.l.length → ∃ a o, q.ad = some ⟨a, o, none⟩ ∧ a < w.heap.size ∧ ∀ (i : Nat) (x : Sm.Pt), q.l[i]? = some x → w.cell? ⟨a, o + i, none⟩ = some x.V ∧ x.In w w.heap.size ∧ x.l.length ≤ 9223372036854775807
theorem Rw.In.ext {q : Rw} {w w' : World} (h : q.In w) (k : Ex w w') : q.In w' := ⟨h.len, fun h0 => by
  obtain ⟨a, o, e, ha, hc⟩ := h.read h0
  refine ⟨a, o, e, Nat.lt_of_lt_of_le ha k.size, fun i x hx => ?_⟩
  obtain ⟨h0, h4, h5⟩ := hc i x hx
  exact ⟨(k.cell (p := ⟨a, _, none⟩) ha).trans h0, h4.ext k, h5⟩⟩
def ctR (l : List Sm.Pt) : List (List UInt8) := l.map (·.l)
theorem ctR_at (l : List Sm.Pt) (i : Nat) (x : Sm.Pt) (h : l[i]? = some x) : (ctR l).getD i [] = x.l := by
  unfold ctR; rw [List.getD_eq_getElem?_getD, List.getElem?_map, h]; rfl
end Go.Proofs.Ytgoiidpcdifojaa
