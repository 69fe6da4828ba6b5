/- SlotsLast: what disks hold behind Puts, a Sync, a Crash -/
import Derived.Test.YtgoiidpcdifojaaLi
namespace Go.Proofs.Ytgoiidpcdifojaa
open Go.RowKit
def putX (c : Dc) (x : Int × List UInt8) : Dc := putC c (witI x.1 9).toNat (x.2.take 20)
def foldP (c : Dc) (l : List (Int × List UInt8)) : Dc := l.foldl putX c
theorem foldP_snoc (c : Dc) (l : List (Int × List UInt8)) (x : Int × List UInt8) : foldP c (l ++ [x]) = putX (foldP c l) x := by unfold foldP; rw [List.foldl_append]; rfl
theorem wit9 (x : Int) : (witI x 9).toNat < 10 ∧ (((witI x 9).toNat : Nat) : Int) = witI x 9 := by
  have := wit_in x 9 (by decide); omega
structure Ok20 (c : Dc) : Prop where
  now : ∀ n : Nat, (c.now.getD n (false, [])).2.length ≤ 20
  put : c.put.length ≤ 20
theorem getD_set (l : List (Bool × List UInt8)) (n m : Nat) (x d : Bool × List UInt8) : (l.set n x).getD m d = if n = m ∧ n < l.length then x else l.getD m d := by
  simp only [List.getD_eq_getElem?_getD, List.getElem?_set]
  by_cases h : n = m
  · subst h
    by_cases h2 : n < l.length
    · simp [h2]
    · simp [h2, List.getElem?_eq_none (by omega : l.length ≤ n)]
  · simp [h]
theorem Ok20.zero : Ok20 zeroC := ⟨fun n => by
  unfold zeroC
  rw [List.getD_eq_getElem?_getD, List.getElem?_replicate]
  split <;> simp, by simp [zeroC]⟩
theorem Ok20.putX {c : Dc} (h : Ok20 c) (x : Int × List UInt8) : Ok20 (putX c x) := by
  refine ⟨fun n => ?_, ?_⟩
  · show ((c.now.set _ _).getD n _).2.length ≤ 20
    rw [getD_set]
    split
    · simp; omega
    · exact h.now n
  · show (x.2.take 20).length ≤ 20
    simp; omega
theorem Ok20.fold {c : Dc} (h : Ok20 c) : ∀ l : List (Int × List UInt8), Ok20 (foldP c l) := fun l => by
  unfold foldP
  induction l generalizing c with
  | nil => exact h
  | cons x r ih => exact ih (h.putX x)
theorem Ok20.sync {c : Dc} (h : Ok20 c) : Ok20 (syncC c) := ⟨h.now, by simp [syncC]⟩
theorem fold_pend (c : Dc) (l : List (Int × List UInt8)) : (foldP c l).pend = c.pend + l.length := by
  unfold foldP
  induction l generalizing c with
  | nil => simp
  | cons x r ih => rw [List.foldl_cons, ih]; show c.pend + 1 + _ = _; simp; omega
theorem fold_las (c : Dc) (l : List (Int × List UInt8)) : (foldP c l).las = c.las := by
  unfold foldP
  induction l generalizing c with
  | nil => rfl
  | cons x r ih => rw [List.foldl_cons, ih]; rfl
theorem fold_len (c : Dc) (l : List (Int × List UInt8)) : (foldP c l).now.length = c.now.length := by
  unfold foldP
  induction l generalizing c with
  | nil => rfl
  | cons x r ih => rw [List.foldl_cons, ih]; show (c.now.set _ _).length = _; simp
/-- the slot that was put last, what was put -/
def lastI (l : List (Int × List UInt8)) : Int := match l.getLast? with | none => -1 | some x => witI x.1 9
def lastY (l : List (Int × List UInt8)) : List UInt8 := match l.getLast? with | none => [] | some x => x.2.take 20
theorem lastI_snoc (l : List (Int × List UInt8)) (x : Int × List UInt8) : lastI (l ++ [x]) = witI x.1 9 := by unfold lastI; simp
theorem lastY_snoc (l : List (Int × List UInt8)) (x : Int × List UInt8) : lastY (l ++ [x]) = x.2.take 20 := by unfold lastY; simp
theorem fold_last (c : Dc) (l : List (Int × List UInt8)) (h : l ≠ []) : (foldP c l).lst = lastI l ∧ (foldP c l).put = lastY l := by
  obtain ⟨m, x, rfl⟩ : ∃ m x, l = m ++ [x] := ⟨l.dropLast, l.getLast h, (List.dropLast_concat_getLast h).symm⟩
  rw [foldP_snoc, lastI_snoc, lastY_snoc]
  exact ⟨(wit9 x.1).2, rfl⟩
/-- what each slot has at the end -/
theorem end_at (c : Dc) (l : List (Int × List UInt8)) (t i : Nat) (h10 : c.now.length = 10) (hi : i < 10) :
    (crashC (foldP (syncC c) l) t).now.getD i (false, []) = if (i : Int) = lastI l ∧ 0 < t then (true, (lastY l).take t) else c.now.getD i (false, []) := by
  have hl : (foldP (syncC c) l).las = c.now := fold_las _ _
  show (crashN (foldP (syncC c) l) t).getD i (false, []) = _
  unfold crashN
  rw [hl]
  by_cases h0 : l = []
  · subst h0
    have e1 : (foldP (syncC c) []).pend = 0 := rfl
    rw [e1, if_neg (by omega), if_neg (by show ¬ ((i : Int) = -1 ∧ 0 < t); omega)]
  · obtain ⟨h1, h2⟩ := fold_last (syncC c) l h0
    have hp : 0 < (foldP (syncC c) l).pend := by
      rw [fold_pend]
      have : 0 < l.length := List.length_pos_iff.2 h0
      show 0 < (0 : Int) + _
      omega
    have hlast : 0 ≤ lastI l ∧ lastI l < 10 := by
      obtain ⟨m, x, rfl⟩ : ∃ m x, l = m ++ [x] := ⟨l.dropLast, l.getLast h0, (List.dropLast_concat_getLast h0).symm⟩
      rw [lastI_snoc]
      have := wit_in x.1 9 (by decide); omega
    rw [h1, h2]
    by_cases ht : 0 < t
    · rw [if_pos ⟨hp, ht⟩, getD_set]
      by_cases he : (i : Int) = lastI l
      · rw [if_pos (by omega), if_pos ⟨he, ht⟩]
      · rw [if_neg (by omega), if_neg (by omega)]
    · rw [if_neg (by omega), if_neg (by omega)]
theorem fold_lst (c : Dc) (l : List (Int × List UInt8)) (n : Nat) (hn : n < 10) (hc : c.lst = n) : ∃ m : Nat, m < 10 ∧ (foldP c l).lst = m := by
  by_cases h0 : l = []
  · subst h0; exact ⟨n, hn, hc⟩
  · obtain ⟨m, x, rfl⟩ : ∃ m x, l = m ++ [x] := ⟨l.dropLast, l.getLast h0, (List.dropLast_concat_getLast h0).symm⟩
    rw [(fold_last c _ h0).1, lastI_snoc]
    exact ⟨(witI x.1 9).toNat, (wit9 x.1).1, (wit9 x.1).2.symm⟩
/-- rows of asks: each one's slot and bytes -/
structure Aq where
  ad : Option Addr
  cap : Nat
  l : List (Int × Sm.Pt)
def Aq.V (q : Aq) : Value := .slice q.ad q.l.length q.cap
structure Aq.In (q : Aq) (w : World) : Prop where
  cap : q.l.length ≤ q.cap
  len : q.l.length ≤ 9223372036854775807
  read : 0 < q.l.length → ∃ a o, q.ad = some ⟨a, o, none⟩ ∧ a < w.heap.size ∧ ∀ (i : Nat) (x : Int × Sm.Pt), q.l[i]? = some x → w.cell? ⟨a, o + i * 4 + 1, none⟩ = some (.int .i64 x.1) ∧ w.cell? ⟨a, o + i * 4 + 3, none⟩ = some x.2.V ∧ x.2.In w w.heap.size ∧ x.2.l.length ≤ 9223372036854775807 ∧ (Lit.int .i64 x.1).wf = true
theorem Aq.In.ext {q : Aq} {w w' : World} (h : q.In w) (k : Ex w w') : q.In w' := ⟨h.cap, h.len, fun h0 => by
  obtain ⟨a, o, e, ha, hc⟩ := h.read h0
  refine ⟨a, o, e, Nat.lt_of_lt_of_le ha k.size, fun i x hx => ?_⟩
  obtain ⟨h1, h2, h3, h4, h5⟩ := hc i x hx
  exact ⟨(k.cell (p := ⟨a, _, none⟩) ha).trans h1, (k.cell (p := ⟨a, _, none⟩) ha).trans h2, h3.ext k, h4, h5⟩⟩
def ctA (l : List (Int × Sm.Pt)) : List (Int × List UInt8) := l.map fun x => (x.1, x.2.l)
theorem ctA_take (l : List (Int × Sm.Pt)) (k : Nat) (x : Int × Sm.Pt) (h : l[k]? = some x) : (ctA l).take (k + 1) = (ctA l).take k ++ [(x.1, x.2.l)] := by
  rw [List.take_add_one]
  unfold ctA
  rw [List.getElem?_map, h]; rfl
end Go.Proofs.Ytgoiidpcdifojaa
