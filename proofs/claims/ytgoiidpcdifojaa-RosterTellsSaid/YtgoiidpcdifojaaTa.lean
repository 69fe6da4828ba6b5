/- a list that may be is told by a number; to follow, by numbers -/
import Derived.Test.YtgoiidpcdifojaaRoT
namespace Go.Proofs.Ytgoiidpcdifojaa
open Go.RowKit
theorem sorted_eq : ∀ (l m : List Int), l.Pairwise (· < ·) → m.Pairwise (· < ·) → (∀ x, x ∈ l ↔ x ∈ m) → l = m
  | [], [], _, _, _ => rfl
  | [], b :: m, _, _, h => absurd ((h b).2 List.mem_cons_self) (by simp)
  | a :: l, [], _, _, h => absurd ((h a).1 List.mem_cons_self) (by simp)
  | a :: l, b :: m, hl, hm, h => by
    rw [List.pairwise_cons] at hl hm
    have e : a = b := by
      have h1 := (h a).1 List.mem_cons_self
      have h2 := (h b).2 List.mem_cons_self
      rw [List.mem_cons] at h1 h2
      rcases h1 with h1 | h1
      · exact h1
      · rcases h2 with h2 | h2
        · exact h2.symm
        · have := hm.1 a h1; have := hl.1 b h2; omega
    subst e
    rw [sorted_eq l m hl.2 hm.2 fun x => ?_]
    constructor
    · intro hx
      have h1 := (h x).1 (List.mem_cons_of_mem _ hx)
      rw [List.mem_cons] at h1
      rcases h1 with h1 | h1
      · have := hl.1 x hx; omega
      · exact h1
    · intro hx
      have h1 := (h x).2 (List.mem_cons_of_mem _ hx)
      rw [List.mem_cons] at h1
      rcases h1 with h1 | h1
      · have := hm.1 x hx; omega
      · exact h1
theorem good_pair {l : List Int} (h : goodL l) : l.Pairwise (· < ·) := by
  rw [List.pairwise_iff_getElem]
  intro i j hi hj hij
  have h1 := good_sorted h (j - 1 - i) i (by omega)
  have h2 := (h j hj).2.2 (by omega)
  rw [show i + (j - 1 - i) = j - 1 by omega] at h1
  have h3 : l.getD i 0 = l[i] := by simp [List.getD, hi]
  have h4 : l.getD j 0 = l[j] := by simp [List.getD, hj]
  omega
theorem mem_mem8 (b : Nat) (x : Int) : x ∈ mem8 b 8 ↔ ∃ i : Nat, i < 8 ∧ b.testBit i = true ∧ x = (i : Int) := by
  unfold mem8
  simp only [List.mem_map, List.mem_filter, List.mem_range, decide_eq_true_eq]
  constructor
  · rintro ⟨i, ⟨h1, h2⟩, rfl⟩
    exact ⟨i, h1, by rw [Nat.testBit_eq_decide_div_mod_eq]; exact decide_eq_true h2, rfl⟩
  · rintro ⟨i, h1, h2, rfl⟩
    exact ⟨i, ⟨h1, by rw [Nat.testBit_eq_decide_div_mod_eq] at h2; exact of_decide_eq_true h2⟩, rfl⟩
theorem setN_bit (i : Nat) : ∀ (l : List Int) (n : Nat), (∀ m ∈ l, 0 ≤ m) → (l.foldl (fun n m => n ||| 2 ^ m.toNat) n).testBit i = (n.testBit i || decide ((i : Int) ∈ l))
  | [], n, _ => by simp
  | a :: l, n, h => by
    rw [List.foldl_cons, setN_bit i l _ (fun m hm => h m (List.mem_cons_of_mem _ hm)), Nat.testBit_or, Nat.testBit_two_pow]
    have ha := h a List.mem_cons_self
    have e : decide (a.toNat = i) = decide ((i : Int) = a) := by
      by_cases h1 : a.toNat = i
      · rw [decide_eq_true h1, decide_eq_true (by omega)]
      · rw [decide_eq_false h1, decide_eq_false (by omega)]
    rw [e]
    simp only [List.mem_cons]
    rw [Bool.or_assoc]
    congr 1
    by_cases h1 : (i : Int) = a <;> by_cases h2 : (i : Int) ∈ l <;> simp [h1, h2]
theorem mem8_pair : ((List.range 256).all fun b => decide ((mem8 b 8).Pairwise (· < ·))) = true := by decide +kernel
theorem right_mem8 {v : Int} {l : List Int} (h : rightB v l = true) : setN l < 256 ∧ l = mem8 (setN l) 8 := by
  have hg := (right_len h).2.2.2.2
  have hm := good_mem hg
  have hlt := setN_lt l hm
  refine ⟨hlt, sorted_eq _ _ (good_pair hg) (of_decide_eq_true (List.all_eq_true.1 mem8_pair _ (List.mem_range.2 hlt))) fun x => ?_⟩
  rw [mem_mem8]
  have hb := fun i => setN_bit i l 0 (fun m hm' => (hm m hm').1)
  constructor
  · intro hx
    have := hm x hx
    refine ⟨x.toNat, by omega, ?_, by omega⟩
    have h1 := hb x.toNat
    rw [show ((x.toNat : Nat) : Int) = x by omega, decide_eq_true hx] at h1
    unfold setN; rw [h1]; simp
  · rintro ⟨i, hi, h1, rfl⟩
    have h2 := hb i
    unfold setN at h1
    rw [h1] at h2
    simpa using h2
def twoB (d : Nat) : Bool := (d != 0) && ((d &&& (d - 1)) == 0)
def afterB (va : Int) (a : List Int) (vb : Int) (b : List Int) : Bool := rightB va a && (rightB vb b && (decide (vb = va + 1) && twoB (setN a ^^^ setN b)))
def cht (x k : Nat) : Bool := if x / 2 ^ k % 2 = 1 then twoB (x ^^^ (x - 2 ^ k)) && decide (x ^^^ 2 ^ k = x - 2 ^ k) else twoB (x ^^^ (x ||| 2 ^ k)) && decide (x ^^^ 2 ^ k = x ||| 2 ^ k)
theorem cht_all : ((List.range 256).all fun b => (List.range 8).all fun k => cht b k) = true := by decide +kernel
def chu (d : Nat) : Bool := !twoB d || (List.range 8).any fun k => decide (d = 2 ^ k)
theorem chu_all : ((List.range 256).all fun d => chu d) = true := by decide +kernel
theorem two_pow {d : Nat} (hd : d < 256) (h : twoB d = true) : ∃ k, k < 8 ∧ d = 2 ^ k := by
  have h1 := List.all_eq_true.1 chu_all d (List.mem_range.2 hd)
  unfold chu at h1
  rw [h] at h1
  simp only [Bool.not_true, Bool.false_or, List.any_eq_true, decide_eq_true_eq, List.mem_range] at h1
  exact h1
theorem cht_is {x k : Nat} (hx : x < 256) (hk : k < 8) : (x / 2 ^ k % 2 = 1 → twoB (x ^^^ (x - 2 ^ k)) = true ∧ x ^^^ 2 ^ k = x - 2 ^ k) ∧ (¬ x / 2 ^ k % 2 = 1 → twoB (x ^^^ (x ||| 2 ^ k)) = true ∧ x ^^^ 2 ^ k = x ||| 2 ^ k) := by
  have h1 := List.all_eq_true.1 cht_all x (List.mem_range.2 hx)
  have h2 := List.all_eq_true.1 h1 k (List.mem_range.2 hk)
  unfold cht at h2
  constructor
  · intro h; rw [if_pos h] at h2; simpa using h2
  · intro h; rw [if_neg h] at h2; simpa using h2
theorem right_ne {v : Int} {b : Nat} (h : rightB v (mem8 b 8) = true) : b ≠ 0 := by
  rintro rfl
  exact absurd (right_len h).2.2.1 (by decide)
theorem has_bit {v : Int} {b k : Nat} (hr : rightB v (mem8 b 8) = true) (hb : b < 256) (hk : k < 8) : hasB v (mem8 b 8) k = decide (b / 2 ^ k % 2 = 1) := by
  rw [← (chf_is hb hk (right_ne hr)).1]
  unfold hasB
  rw [right_ver (right_len hr).1 (right_len hr).2.1]
theorem fol_after (va : Int) (a : List Int) (vb : Int) (b : List Int) : followsB va a vb b = afterB va a vb b := by
  rw [Bool.eq_iff_iff]
  constructor
  · intro h
    obtain ⟨k, hk, hs⟩ := List.any_eq_true.1 h
    have hk := List.mem_range.1 hk
    unfold stepB at hs
    rw [Bool.or_eq_true, Bool.and_eq_true, Bool.and_eq_true] at hs
    rcases hs with ⟨h1, h2⟩ | ⟨h1, h2⟩
    · rw [withV_yes h1] at h2
      unfold sameB at h2
      rw [Bool.and_eq_true, beq_iff_eq, decide_eq_true_eq] at h2
      obtain ⟨e1, e2⟩ := h2
      have h3 := h1
      unfold withB withOk at h3
      rw [Bool.and_eq_true, Bool.and_eq_true] at h3
      obtain ⟨⟨r1, nm⟩, r2⟩ := h3
      have eL : withL va a k = insL k a := by unfold withL withOk nextL; rw [r1, nm, r2]; rfl
      rw [eL] at e2
      obtain ⟨xl, ea⟩ := right_mem8 r1
      have r1' := r1
      rw [ea] at r1'
      have hh := has_bit r1' xl hk
      have hno : hasB va (mem8 (setN a) 8) k = false := by rw [← ea]; unfold hasB; rw [r1, Bool.true_and]; simpa using nm
      rw [hno] at hh
      have hbit : ¬ setN a / 2 ^ k % 2 = 1 := of_decide_eq_false hh.symm
      have c := (chf_is xl hk (right_ne r1')).2.2 hbit
      have eb : b = mem8 (setN a ||| 2 ^ k) 8 := by rw [← e2]; conv => lhs; rw [ea]
                                                    exact c.1
      have sb : setN b = setN a ||| 2 ^ k := by rw [eb]; exact (chs_is (Nat.or_lt_two_pow (n := 8) xl (Nat.pow_lt_pow_right (by decide) hk))).1
      unfold afterB
      rw [r1, ← e1, ← e2, r2, e2, sb, ((cht_is xl hk).2 hbit).1]
      simp
    · rw [lessV_yes h1] at h2
      unfold sameB at h2
      rw [Bool.and_eq_true, beq_iff_eq, decide_eq_true_eq] at h2
      obtain ⟨e1, e2⟩ := h2
      have h3 := h1
      unfold lessB at h3
      rw [Bool.and_eq_true] at h3
      obtain ⟨hm, r2⟩ := h3
      have r1 : rightB va a = true := by unfold hasB at hm; rw [Bool.and_eq_true] at hm; exact hm.1
      have eL : lessL va a k = delL k a := by unfold lessL nextL; rw [hm, r2]; rfl
      rw [eL] at e2
      obtain ⟨xl, ea⟩ := right_mem8 r1
      have r1' := r1
      rw [ea] at r1'
      have hh := has_bit r1' xl hk
      rw [← ea, hm] at hh
      have hbit : setN a / 2 ^ k % 2 = 1 := of_decide_eq_true hh.symm
      have c := (chf_is xl hk (right_ne r1')).2.1 hbit
      have eb : b = mem8 (setN a - 2 ^ k) 8 := by rw [← e2]; conv => lhs; rw [ea]
                                                  exact c.1
      have sb : setN b = setN a - 2 ^ k := by rw [eb]; exact (chs_is (Nat.lt_of_le_of_lt (Nat.sub_le _ _) xl)).1
      unfold afterB
      rw [r1, ← e1, ← e2, r2, e2, sb, ((cht_is xl hk).1 hbit).1]
      simp
  · intro h
    unfold afterB at h
    rw [Bool.and_eq_true, Bool.and_eq_true, Bool.and_eq_true, decide_eq_true_eq] at h
    obtain ⟨r1, r2, e1, ht⟩ := h
    obtain ⟨xl, ea⟩ := right_mem8 r1
    obtain ⟨yl, eb⟩ := right_mem8 r2
    obtain ⟨k, hk, hd⟩ := two_pow (Nat.xor_lt_two_pow (n := 8) xl yl) ht
    have ey : setN b = setN a ^^^ 2 ^ k := by rw [← hd, ← Nat.xor_assoc, Nat.xor_self, Nat.zero_xor]
    have r1' := r1
    rw [ea] at r1'
    have hh := has_bit r1' xl hk
    rw [← ea] at hh
    by_cases hbit : setN a / 2 ^ k % 2 = 1
    · rw [decide_eq_true hbit] at hh
      have c := (chf_is xl hk (right_ne r1')).2.1 hbit
      have eb2 : delL k a = b := by
        conv => lhs; rw [ea]
        rw [c.1, eb, ey, ((cht_is xl hk).1 hbit).2]
      have hl : lessB va a k = true := by unfold lessB; rw [hh, eb2, ← e1, r2]; rfl
      have eL : lessL va a k = b := by unfold lessL nextL; rw [hh, eb2, ← e1, r2]; rfl
      have := fol_less hk hl
      rwa [lessV_yes hl, eL, ← e1] at this
    · rw [decide_eq_false hbit] at hh
      have c := (chf_is xl hk (right_ne r1')).2.2 hbit
      have eb2 : insL k a = b := by
        conv => lhs; rw [ea]
        rw [c.1, eb, ey, ((cht_is xl hk).2 hbit).2]
      have hw : withOk va a k = true := by
        unfold hasB at hh
        rw [r1, Bool.true_and] at hh
        unfold withOk; rw [r1, hh]; rfl
      have hl : withB va a k = true := by unfold withB; rw [hw, eb2, ← e1, r2]; rfl
      have eL : withL va a k = b := by unfold withL nextL; rw [hw, eb2, ← e1, r2]; rfl
      have := fol_with hk hl
      rwa [withV_yes hl, eL, ← e1] at this
end Go.Proofs.Ytgoiidpcdifojaa
