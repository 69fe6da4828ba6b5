/- Sa, Sb -/
import Derived.Test.YtmjfnpmnhehnkaaXap
import Derived.Test.YtmjfnpmnhehnkaaXap
import Derived.Test.YtmjfnpmnhehnkaaXap
import Derived.Laws.MakeOwn
import Derived.Deep.DeepCutAuto
namespace Go.Proofs.Ytmjfnpmnhehnkaa
open Go.RowKit
structure Pa where
 role : Int
 ep : Int
 tw : Int
structure Pa.Ok (x : Pa) : Prop where
 role : i64 x.role
 ep : 0 ≤ x.ep ∧ x.ep < 18446744073709551616
 tw : i64 x.tw
def partC (p : Pa) (d : Option Nat) : List Value := [.int .i64 p.role, .int .u64 p.ep, .int .i64 p.tw, .pointer (d.map fun g => ⟨g, 0, none⟩)]
def stC (m n : Int) (p : Nat → Pa) (D : Nat → Option Nat) : List Value := [.int .i64 m, .int .i64 n] ++ (List.range 16).flatMap fun i => partC (p i) (D i)
theorem stC_len (m n : Int) (p : Nat → Pa) (D : Nat → Option Nat) : (stC m n p D).length = 66 := rfl
theorem range_part (p : Nat → Pa) (D : Nat → Option Nat) : ∀ (N i j : Nat), i < N → j < 4 → ((List.range N).flatMap fun i => partC (p i) (D i))[i * 4 + j]? = (partC (p i) (D i))[j]?
 | 0, i, j, h, _ => absurd h (Nat.not_lt_zero i)
 | N + 1, i, j, h, hj => by
  have hl : ∀ N, ((List.range N).flatMap fun i => partC (p i) (D i)).length = N * 4 := fun N => by
   induction N with
   | zero => rfl
   | succ N ih => rw [List.range_succ, List.flatMap_append, List.length_append, ih]; simp [partC]; omega
  rw [List.range_succ, List.flatMap_append]
  rcases Nat.lt_or_ge i N with h1 | h1
  ·rw [List.getElem?_append_left (by rw [hl]; omega)]
   exact range_part p D N i j h1 hj
  ·obtain rfl : i = N := by omega
   rw [List.getElem?_append_right (by rw [hl]; omega), hl, Nat.add_sub_cancel_left]
   simp
theorem stC_at (m n : Int) (p : Nat → Pa) (D : Nat → Option Nat) {i j : Nat} (hi : i < 16) (hj : j < 4) : (stC m n p D)[2 + i * 4 + j]? = (partC (p i) (D i))[j]? := by
 unfold stC
 rw [List.getElem?_append_right (by simp; omega), show 2 + i * 4 + j - [Value.int .i64 m, Value.int .i64 n].length = i * 4 + j by simp; omega]
 exact range_part p D 16 i j hi hj
/-- two such rows of cells are one where their heads and parts are -/
theorem stC_ext {m n : Int} {p : Nat → Pa} {D : Nat → Option Nat} {L : List Value} (hl : L.length = 66) (h0 : L[0]? = some (.int .i64 m)) (h1 : L[1]? = some (.int .i64 n)) (h : ∀ i j, i < 16 → j < 4 → L[2 + i * 4 + j]? = (partC (p i) (D i))[j]?) : L = stC m n p D := by
 apply List.ext_getElem?
 intro k
 rcases (show k = 0 ∨ k = 1 ∨ 66 ≤ k ∨ ∃ i j, i < 16 ∧ j < 4 ∧ k = 2 + i * 4 + j by
  rcases Nat.lt_or_ge k 2 with h | h
  ·omega
  ·rcases Nat.lt_or_ge k 66 with h2 | h2
   ·exact Or.inr (Or.inr (Or.inr ⟨(k - 2) / 4, (k - 2) % 4, by omega, by omega, by omega⟩))
   ·omega) with rfl | rfl | hk | ⟨i, j, hi, hj, rfl⟩
 ·exact h0
 ·exact h1
 ·rw [List.getElem?_eq_none (by omega), List.getElem?_eq_none (by rw [stC_len]; omega)]
 rw [h i j hi hj, stC_at m n p D hi hj]
theorem stC_part (m n : Int) (p : Nat → Pa) (D : Nat → Option Nat) (q : Pa) (d : Option Nat) {i : Nat} (hi : i < 16) : (stC m n p D).take (2 + i * 4) ++ partC q d ++ (stC m n p D).drop (2 + i * 4 + (partC q d).length) = stC m n (updF p i q) (updF D i d) := by
 have hq : (partC q d).length = 4 := rfl
 have hA : ((stC m n p D).take (2 + i * 4) ++ partC q d).length = 2 + i * 4 + 4 := by rw [List.length_append, List.length_take, stC_len, hq]; omega
 have ht : ((stC m n p D).take (2 + i * 4)).length = 2 + i * 4 := by rw [List.length_take, stC_len]; omega
 refine stC_ext ?_ ?_ ?_ ?_
 ·rw [List.length_append, hA, List.length_drop, stC_len, hq]; omega
 ·rw [List.append_assoc, List.getElem?_append_left (by rw [ht]; omega), List.getElem?_take, if_pos (by omega)]; rfl
 ·rw [List.append_assoc, List.getElem?_append_left (by rw [ht]; omega), List.getElem?_take, if_pos (by omega)]; rfl
 intro a j ha hj
 rcases Nat.lt_trichotomy a i with h | rfl | h
 ·rw [List.append_assoc, List.getElem?_append_left (by rw [ht]; omega), List.getElem?_take, if_pos (by omega), stC_at m n p D ha hj, updF_ne _ _ (by omega), updF_ne _ _ (by omega)]
 ·rw [List.getElem?_append_left (by rw [hA]; omega), List.getElem?_append_right (by rw [ht]; omega), ht, Nat.add_sub_cancel_left, updF_same, updF_same]
 rw [List.getElem?_append_right (by rw [hA]; omega), hA, List.getElem?_drop, hq, show 2 + i * 4 + 4 + (2 + a * 4 + j - (2 + i * 4 + 4)) = 2 + a * 4 + j by omega, stC_at m n p D ha hj, updF_ne _ _ (by omega), updF_ne _ _ (by omega)]
theorem stC_set (m n : Int) (p : Nat → Pa) (D : Nat → Option Nat) (q : Pa) {i j : Nat} (v : Value) (hi : i < 16) (hj : j < 4) (hq : (partC (p i) (D i)).set j v = partC q (D i)) : (stC m n p D).set (2 + i * 4 + j) v = stC m n (updF p i q) D := by
 refine stC_ext (by rw [List.length_set, stC_len]) ?_ ?_ ?_
 ·rw [List.getElem?_set_ne (by omega)]; rfl
 ·rw [List.getElem?_set_ne (by omega)]; rfl
 intro a b ha hb
 by_cases e : a = i
 ·subst e
  rw [updF_same, ← hq]
  by_cases e2 : b = j
  ·subst e2
   rw [List.getElem?_set_self (by rw [stC_len]; omega), List.getElem?_set_self (by show b < 4; omega)]
  rw [List.getElem?_set_ne (by omega), List.getElem?_set_ne (fun e => e2 e.symm), stC_at m n p D ha hb]
 rw [List.getElem?_set_ne (by omega), stC_at m n p D ha hb, updF_ne _ _ e]
/-- a state: its block, its tables -/
structure SS (w : World) (B M : Nat) (m n : Int) (p : Nat → Pa) (D : Nat → Nat) (r : Nat → Value) (v : Nat → List Vt) : Prop where
 blk : Bk w M 115 (stC m n p (fun i => some (D i))).toArray
 ts : TS w B 16 D r v
 ok : ∀ i, i < 16 → (p i).Ok
 mok : i64 m ∧ i64 n
theorem SS.ext {w w' : World} {B M : Nat} {m n : Int} {p : Nat → Pa} {D : Nat → Nat} {r : Nat → Value} {v : Nat → List Vt} (h : SS w B M m n p D r v) (k : Ex w w') : SS w' B M m n p D r v := ⟨h.blk.ext k, h.ts.ext k, h.ok, h.mok⟩
theorem SS.cells {w : World} {B M : Nat} {m n : Int} {p : Nat → Pa} {D : Nat → Nat} {r : Nat → Value} {v : Nat → List Vt} (h : SS w B M m n p D r v) {i : Nat} (hi : i < 16) : w.cell? ⟨M, 2 + i * 4, none⟩ = some (.int .i64 (p i).role) ∧ w.cell? ⟨M, 2 + i * 4 + 1, none⟩ = some (.int .u64 (p i).ep) ∧ w.cell? ⟨M, 2 + i * 4 + 2, none⟩ = some (.int .i64 (p i).tw) ∧ w.cell? ⟨M, 2 + i * 4 + 3, none⟩ = some (.pointer (some ⟨D i, 0, none⟩)) :=
 ⟨(h.blk.cell _).trans (by rw [List.getElem?_toArray]; exact stC_at m n p _ hi (show 0 < 4 by decide)), (h.blk.cell _).trans (by rw [List.getElem?_toArray]; exact stC_at m n p _ hi (show 1 < 4 by decide)), (h.blk.cell _).trans (by rw [List.getElem?_toArray]; exact stC_at m n p _ hi (show 2 < 4 by decide)), (h.blk.cell _).trans (by rw [List.getElem?_toArray]; exact stC_at m n p _ hi (show 3 < 4 by decide))⟩
theorem SS.heads {w : World} {B M : Nat} {m n : Int} {p : Nat → Pa} {D : Nat → Nat} {r : Nat → Value} {v : Nat → List Vt} (h : SS w B M m n p D r v) : w.cell? ⟨M, 0, none⟩ = some (.int .i64 m) ∧ w.cell? ⟨M, 1, none⟩ = some (.int .i64 n) := ⟨(h.blk.cell _).trans rfl, (h.blk.cell _).trans rfl⟩
def homeN (n : Int) : Int := min (max n 1) 8
def homeC (k : Nat) (n : Int) : List Value := (List.range 16).map fun i => if i < k then .int .i64 ((i : Int) % homeN n) else .int .i64 0
theorem homeC_len (k : Nat) (n : Int) : (homeC k n).length = 16 := by unfold homeC; rw [List.length_map, List.length_range]
theorem homeC_set (k : Nat) (n : Int) : (homeC k n).set k (.int .i64 ((k : Int) % homeN n)) = homeC (k + 1) n := by
 apply List.ext_getElem?
 intro i
 by_cases e : k = i
 ·subst e
  by_cases h : k < 16
  ·rw [List.getElem?_set_self (by rw [homeC_len]; exact h)]
   unfold homeC
   rw [List.getElem?_map, List.getElem?_range h]
   simp
  rw [List.getElem?_eq_none (by rw [List.length_set, homeC_len]; omega), List.getElem?_eq_none (by rw [homeC_len]; omega)]
 rw [List.getElem?_set_ne e]
 unfold homeC
 rw [List.getElem?_map, List.getElem?_map]
 by_cases h : i < 16
 ·rw [List.getElem?_range h]
  simp only [Option.map_some, Option.some.injEq]
  by_cases h2 : i < k
  ·rw [if_pos h2, if_pos (by omega)]
  rw [if_neg h2, if_neg (by omega)]
 rw [List.getElem?_eq_none (by rw [List.length_range]; omega)]; rfl
theorem homeC_at (n : Int) {i : Nat} (hi : i < 16) : (homeC 16 n)[i]? = some (.int .i64 ((i : Int) % homeN n)) := by
 unfold homeC
 rw [List.getElem?_map, List.getElem?_range hi]
 simp [hi]
set_option maxHeartbeats 4000000 in
set_option maxRecDepth 100000 in
theorem shr_any (n : Int) (w : World) : Calls Try.prog 105 #[.int .i64 n] w fun e w' => e = .returned (.bool (decide (0 ≤ n ∧ n < 16))) ∧ w = w' := by
 by_cases h0 : 0 ≤ n
 ·by_cases h1 : n < 16
  ·rw [decide_eq_true (And.intro h0 h1)]
   go_enter Try.func105, Try.ntmps105
   go_wp2_with fail
   go_ret
   exact ⟨rfl, rfl⟩
  rw [decide_eq_false (fun h : 0 ≤ n ∧ n < 16 => h1 h.2)]
  go_enter Try.func105, Try.ntmps105
  go_wp2_with fail
  go_ret
  exact ⟨rfl, rfl⟩
 rw [decide_eq_false (fun h : 0 ≤ n ∧ n < 16 => h0 h.1)]
 go_enter Try.func105, Try.ntmps105
 go_wp2_with fail
 go_ret
 exact ⟨rfl, rfl⟩
set_option maxHeartbeats 4000000 in
set_option maxRecDepth 100000 in
theorem isshard_any (n : Int) (w : World) : Calls Try.prog 62 #[.int .i64 n] w fun e w' => e = .returned (.bool (decide (0 ≤ n ∧ n < 16))) ∧ w = w' := by
 obtain ⟨b, hb⟩ : ∃ b, b = decide (0 ≤ n ∧ n < 16) := ⟨_, rfl⟩
 rw [← hb]
 have C := Hi (shr_any n w)
 rw [← hb] at C
 clear hb
 go_enter Try.func62, Try.ntmps62
 go_wp2_with fail
 refine C.out.mono ?_
 rintro e w2 ⟨rfl, rfl⟩
 go_wp2_with fail
 go_ret
 exact ⟨rfl, rfl⟩
set_option maxHeartbeats 4000000 in
set_option maxRecDepth 100000 in
theorem first_any (i : Nat) (hi : i < 16) (n : Int) (hn : i64 n) (w : World) : Calls Try.prog 97 #[.int .i64 i, .int .i64 n] w fun e w' => e = .returned (.int .i64 ((i : Int) % homeN n)) ∧ w = w' := by
 have hN : 1 ≤ homeN n ∧ homeN n ≤ 8 := by unfold homeN; omega
 have q0 : (0 : Int) ≤ (i : Int) := by omega
 go_enter Try.func97, Try.ntmps97
 go_wp2_with fail
 refine (shr_any (i : Int) w).mono ?_
 rintro e w2 ⟨rfl, rfl⟩
 rw [decide_eq_true (show (0 : Int) ≤ (i : Int) ∧ (i : Int) < 16 by omega)]
 go_wp2_with fail
 go_ret
 exact ⟨rfl, rfl⟩
theorem Try.infoI : (Try.prog.info? 3).map (fun i => (i.zero, i.size, i.bytes)) = some (some (.int .i64 0), 1, 8) := by kernel_rfl
theorem run_mk16 (n : Int) (w : World) : (Instr.makeSlice 61 (.int .i64 16) (.int .i64 16)).run Try.prog w = .ok (.slice (some ⟨w.heap.size, 0, none⟩) 16 16) (w.alloc (.cells (homeC 0 n).toArray 3)) := by
 obtain ⟨i0, hi0, hz0, hz1, hz2⟩ := info_parts Try.infoI
 have h := run_makeSlice (P := Try.prog) (w := w) 61 3 i0 (.int .i64 0) Try.underlying61 hi0 hz0 .i64 .i64 16 16 (by decide) (by decide) (by rw [hz1]; decide) (by rw [hz2]; decide) (by decide)
 rw [hz1] at h
 have e : madeCells (Value.int .i64 0).cells (Int.toNat 16 * 1) = (homeC 0 n).toArray := by
  unfold madeCells homeC
  apply Array.ext'
  simp [Value.cells, Nat.mod_one]
 rw [e] at h
 exact h
set_option maxHeartbeats 4000000 in
set_option maxRecDepth 100000 in
theorem home_any (n : Int) (hn : i64 n) (w : World) : Calls Try.prog 57 #[.int .i64 n] w fun e w' => ∃ g, e = .returned (.slice (some ⟨g, 0, none⟩) 16 16) ∧ Bk w' g 3 (homeC 16 n).toArray ∧ Ex w w' := by
 go_enter Try.func57, Try.ntmps57
 go_wp2_with fail
 rw [run_mk16 n w]
 simp only [Result.andThen]
 rw [Oper.upon_value]
 go_wp2_with fail
 change Code.wp _ _ _ _ (w.alloc (.cells (homeC 0 n).toArray 3))
 have B0 : Hid (Bk (w.alloc (.cells (homeC 0 n).toArray 3)) w.heap.size 3 (homeC 0 n).toArray) := Hi (Bk.new rfl _ _)
 have X0 : Hid (Ex w (w.alloc (.cells (homeC 0 n).toArray 3))) := Hi (Ex.alloc w _)
 obtain ⟨g, hg⟩ : ∃ M, M = w.heap.size := ⟨_, rfl⟩
 generalize hw1 : (w.alloc (.cells (homeC 0 n).toArray 3)) = w1 at *
 rw [← hg] at B0 ⊢
 have HG := Hi hg
 clear hw1 hg
 go_loopw [8] (fun i wr => ∃ k : Nat, k ≤ 16 ∧ i = .int .i64 k ∧ Hid (Bk wr g 3 (homeC k n).toArray) ∧ Hid (Ex w wr)) (fun i _ => 16 - (intOf i).toNat)
 case atStart => exact ⟨0, by omega, rfl, B0, X0⟩
 clear B0 X0
 obtain ⟨k, hk, rfl, BH, BX⟩ := hrel
 by_cases hlt : k < 16
 ·have q0 : (0 : Int) ≤ (k : Int) := by omega
  have q1 : (k : Int) < 16 := by omega
  go_wp2_with fail
  refine (first_any k hlt n hn wr).mono ?_
  rintro e w2 ⟨rfl, rfl⟩
  go_wp2_with ((with_reducible refine so4 [1000 + 3] ?_ ?_); (focus rfl))
  refine at9 (by go_simp) fun K0 hK => wp_st1 _ _ g k (.int .i64 ((k : Int) % homeN n)) rfl rfl rfl BH.out (by rw [homeC_len]; exact hlt) (by kernel_rfl) rfl (fun w3 hd ho => hK _ _ ?_)
  clear hK
  replace BH : Hid (Bk w3 g 3 (homeC (k + 1) n).toArray) := Hi (by rw [← homeC_set]; exact hd)
  replace BX := Hi (ho.below w.heap.size (Nat.le_of_eq HG.out.symm) w BX.out)
  clear hd ho
  go_wp2_with fail
  (first | (refine ⟨?_, ?measure⟩; (repeat apply Exists.intro); refine ⟨?rel, rfl⟩) | refine ⟨?rel, ?measure⟩)
  case rel => exact ⟨k + 1, by omega, by go_num, BH, BX⟩
  case measure => simp [intOf]; omega
 obtain rfl : k = 16 := by omega
 go_wp2_with fail
 go_ret
 exact ⟨g, rfl, BH.out, BX.out⟩
end Go.Proofs.Ytmjfnpmnhehnkaa
namespace Go.Proofs.Ytmjfnpmnhehnkaa
open Go.RowKit
def newP (m n : Int) (i : Nat) : Pa := ⟨if (i : Int) % n = m then 1 else 0, 1, 0⟩
theorem newP_ok (m n : Int) (i : Nat) : (newP m n i).Ok := ⟨by unfold newP i64; simp only; split <;> omega, by unfold newP; simp only; omega, by unfold newP i64; simp only; omega⟩
def pk (m n : Int) (k : Nat) : Nat → Pa := fun i => if i < k then newP m n i else ⟨0, 0, 0⟩
def dk (D : Nat → Nat) (k : Nat) : Nat → Option Nat := fun i => if i < k then some (D i) else none
theorem pk_next (m n : Int) (k : Nat) : updF (pk m n k) k (newP m n k) = pk m n (k + 1) := by
 funext i
 unfold updF pk
 split
 ·rename_i h; rw [h, if_pos (Nat.lt_succ_self k)]
 rename_i h
 by_cases h2 : i < k
 ·rw [if_pos h2, if_pos (by omega)]
 rw [if_neg h2, if_neg (by omega)]
theorem dk_next (D : Nat → Nat) (k d : Nat) : updF (dk D k) k (some d) = dk (updF D k d) (k + 1) := by
 funext i
 unfold updF dk
 split
 ·rename_i h; rw [h, if_pos (Nat.lt_succ_self k)]; show some d = some (if k = k then d else D k); rw [if_pos rfl]
 rename_i h
 by_cases h2 : i < k
 ·rw [if_pos h2, if_pos (by omega)]; show some (D i) = some (if i = k then d else D i); rw [if_neg h]
 rw [if_neg h2, if_neg (by omega)]
theorem stC_congr {m n : Int} {p q : Nat → Pa} {D E : Nat → Option Nat} (hp : ∀ i, i < 16 → p i = q i) (hd : ∀ i, i < 16 → D i = E i) : stC m n p D = stC m n q E :=
 stC_ext (stC_len _ _ _ _) rfl rfl (fun i j hi hj => by rw [stC_at m n p D hi hj, hp i hi, hd i hi])
theorem built_st (m n : Int) : Try.prog.built 115 [(0, .int .i64 m), (1, .int .i64 n)] = some (stC m n (pk m n 0) (dk (fun _ => 0) 0)).toArray := by kernel_rfl
theorem built_part (a c : Int) (D : Nat) : Try.prog.built 112 [(0, .int .i64 a), (1, .int .u64 c), (3, .pointer (some ⟨D, 0, none⟩))] = some (partC ⟨a, c, 0⟩ (some D)).toArray := by kernel_rfl
theorem Try.sizePart : (Try.prog.info? 112).map (·.size) = some 4 := by kernel_rfl
theorem part_ones (p : Pa) (d : Option Nat) : (partC p d).toArray.all (·.oneCell') = true := all_oneCell_toArray (by
 intro v hv
 simp only [partC, List.mem_cons, List.not_mem_nil, or_false] at hv
 rcases hv with rfl | rfl | rfl | rfl <;> rfl)
def SNewPost (m n : Int) (w : World) (e : Ending) (w' : World) : Prop := ∃ (M : Nat) (D : Nat → Nat) (r : Nat → Value) (v : Nat → List Vt), e = .returned (.pointer (some ⟨M, 0, none⟩)) ∧ SS w' w.heap.size M m n (newP m n) D r v ∧ w.heap.size ≤ M ∧ (∀ i, i < 16 → v i = []) ∧ Ex w w'
set_option maxHeartbeats 4000000 in
set_option maxRecDepth 100000 in
theorem snew_bad (m n : Int) (w : World) (h : ¬ (1 ≤ n ∧ n ≤ 8 ∧ 0 ≤ m ∧ m < n)) : Calls Try.prog 16 #[.int .i64 m, .int .i64 n] w fun e w' => e = .returned (.pointer none) ∧ w = w' := by
 by_cases h1 : n < 1
 ·go_enter Try.func16, Try.ntmps16
  go_wp2_with fail
  go_ret
  exact ⟨rfl, rfl⟩
 by_cases h2 : 8 < n
 ·go_enter Try.func16, Try.ntmps16
  go_wp2_with fail
  go_ret
  exact ⟨rfl, rfl⟩
 by_cases h3 : m < 0
 ·go_enter Try.func16, Try.ntmps16
  go_wp2_with fail
  go_ret
  exact ⟨rfl, rfl⟩
 have h4 : n ≤ m := by omega
 go_enter Try.func16, Try.ntmps16
 go_wp2_with fail
 go_ret
 exact ⟨rfl, rfl⟩
set_option maxHeartbeats 4000000 in
set_option maxRecDepth 100000 in
theorem snew_any (m n : Int) (w : World) (hg : 1 ≤ n ∧ n ≤ 8 ∧ 0 ≤ m ∧ m < n) : Calls Try.prog 16 #[.int .i64 m, .int .i64 n] w (SNewPost m n w) := by
 obtain ⟨g1, g2, g3, g4⟩ := hg
 have h1 : ¬ n < 1 := by omega
 have h2 : ¬ 8 < n := by omega
 have h3 : ¬ m < 0 := by omega
 have h4 : ¬ n ≤ m := by omega
 have hN : homeN n = n := by unfold homeN; omega
 have HN := Hi hN
 clear hN
 go_enter Try.func16, Try.ntmps16
 go_wp2_with ((with_reducible refine so0 ?_ ?_); (focus rfl))
 refine at9 (by go_simp) fun K0 hK => wp_build _ _ rfl _ (built_st m n) (hK _ _ ?_)
 clear hK
 go_wp2_with fail
 have B0 : Hid (Bk (w.alloc (.cells (stC m n (pk m n 0) (dk (fun _ => 0) 0)).toArray 115)) w.heap.size 115 (stC m n (pk m n 0) (dk (fun _ => 0) 0)).toArray) := Hi (Bk.new rfl _ _)
 have X0 : Hid (Ex w (w.alloc (.cells (stC m n (pk m n 0) (dk (fun _ => 0) 0)).toArray 115))) := Hi (Ex.alloc w _)
 obtain ⟨M, hM⟩ : ∃ M, M = w.heap.size := ⟨_, rfl⟩
 generalize hw1 : (w.alloc (.cells (stC m n (pk m n 0) (dk (fun _ => 0) 0)).toArray 115)) = w1 at *
 rw [← hM] at B0 ⊢
 have HM := Hi hM
 clear hw1 hM
 refine (home_any n (by unfold i64; omega) w1).mono ?_
 rintro e w2 ⟨g, rfl, hb, x2⟩
 have HB := Hi hb
 replace B0 := Hi (B0.out.ext x2)
 replace X0 := Hi (Ex.trans X0.out x2)
 clear hb x2
 go_wp2_with fail
 go_loopw [31] (fun i wr => ∃ (k : Nat) (D : Nat → Nat) (r : Nat → Value) (v : Nat → List Vt), k ≤ 16 ∧ i = .int .i64 k ∧ Hid (Bk wr g 3 (homeC 16 n).toArray) ∧ Hid (Bk wr M 115 (stC m n (pk m n k) (dk D k)).toArray ∧ TS wr w.heap.size k D r v ∧ Ex w wr ∧ ∀ i, i < k → v i = [])) (fun i _ => 16 - (intOf i).toNat)
 case atStart => exact ⟨0, fun _ => 0, fun _ => .slice none 0 0, fun _ => [], by omega, rfl, HB, Hi ⟨B0.out, ⟨fun i hi => absurd hi (Nat.not_lt_zero i), fun i hi => absurd hi (Nat.not_lt_zero i), fun i j hi => absurd hi (Nat.not_lt_zero i), fun i j hi => absurd hi (Nat.not_lt_zero i)⟩, X0.out, fun i hi => absurd hi (Nat.not_lt_zero i)⟩⟩
 clear B0 X0 HB
 obtain ⟨k, D, r, v, hk, rfl, HB, P⟩ := hrel
 by_cases hlt : k < 16
 rotate_left
 ·obtain rfl : k = 16 := by omega
  go_wp2_with fail
  go_ret
  exact ⟨M, D, r, v, rfl, ⟨by rw [stC_congr (q := pk m n 16) (E := dk D 16) (fun i hi => (if_pos hi).symm) (fun i hi => (if_pos hi).symm)]; exact P.out.1, P.out.2.1, fun i _ => newP_ok m n i, by unfold i64; omega, by unfold i64; omega⟩, Nat.le_of_eq HM.out.symm, P.out.2.2.2, P.out.2.2.1⟩
 have q0 : (0 : Int) ≤ (k : Int) := by omega
 have q1 : (k : Int) < 16 := by omega
 obtain ⟨x, hx⟩ : ∃ x, x = (k : Int) % n := ⟨_, rfl⟩
 have c0 : wr.cell? ⟨g, k, none⟩ = some (.int .i64 x) := by rw [HB.out.cell, List.getElem?_toArray, homeC_at n hlt, HN.out, hx]
 obtain ⟨rl, hrl⟩ : ∃ rl : Int, rl = if x = m then 1 else 0 := ⟨_, rfl⟩
 have HP : Hid (newP m n k = ⟨rl, 1, 0⟩) := Hi (by rw [hrl, hx]; rfl)
 clear hx
 go_upto_if 38 with fail
 clear c0
 go_cut [8] (fun s8 wd => s8 = .int .i64 rl ∧ wd = wr)
 case first =>
  by_cases hxm : x = m
  ·rw [if_pos hxm] at hrl
   go_wp2_with fail
   go_meet
   case rel => exact ⟨by rw [hrl], rfl⟩
  rw [if_neg hxm] at hrl
  go_wp2_with fail
  go_meet
  case rel => exact ⟨by rw [hrl], rfl⟩
 obtain ⟨rfl, rfl⟩ := hcut
 clear hrl
 go_wp2_with fail
 obtain ⟨T, hT⟩ : ∃ T : List Sx, T = [.is (.pointer (some ⟨M, 0, none⟩)), .is (.int .i64 (k : Int)), .is (.int .i64 rl), .of (fun v9 w9 => ∃ D9, v9 = .pointer (some ⟨D9, 0, none⟩) ∧ wc.heap.size ≤ D9 ∧ TB w9 D9 (.slice none 0 0) []) (fun v9 _ _ h k => by obtain ⟨D9, h1, h2, h3⟩ := h; exact ⟨D9, h1, h2, h3.ext k⟩), .of (fun v9 w9 => ∃ D9, v9 = .agg (partC ⟨rl, 1, 0⟩ (some D9)).toArray ∧ wc.heap.size ≤ D9 ∧ TB w9 D9 (.slice none 0 0) []) (fun v9 _ _ h k => by obtain ⟨D9, h1, h2, h3⟩ := h; exact ⟨D9, h1, h2, h3.ext k⟩), .is (.pointer (some ⟨M, 0, none⟩)), .is (.pointer (some ⟨M, 2, none⟩)), .is (.pointer (some ⟨M, 2 + k * 4, none⟩)), .any] := ⟨_, rfl⟩
 have HFX : T.map Sx.fixed = [true, true, true, false, false, true, true, true, true] := by rw [hT]; rfl
 have hFst : ∀ wa wb, (fun w9 => ∃ D9, wc.heap.size ≤ D9 ∧ TB w9 D9 (.slice none 0 0) [] ∧ Bk w9 M 115 (stC m n (pk m n (k + 1)) (dk (updF D k D9) (k + 1))).toArray ∧ Bk w9 g 3 (homeC 16 n).toArray ∧ TS w9 w.heap.size k D r v ∧ Ex w w9) wa → Ex wa wb → (fun w9 => ∃ D9, wc.heap.size ≤ D9 ∧ TB w9 D9 (.slice none 0 0) [] ∧ Bk w9 M 115 (stC m n (pk m n (k + 1)) (dk (updF D k D9) (k + 1))).toArray ∧ Bk w9 g 3 (homeC 16 n).toArray ∧ TS w9 w.heap.size k D r v ∧ Ex w w9) wb := fun _ _ h k9 => by obtain ⟨D9, h1, h2, h3, h4, h5, h6⟩ := h; exact ⟨D9, h1, h2.ext k9, h3.ext k9, h4.ext k9, h5.ext k9, Ex.trans h6 k9⟩
 refine wp_region_gen (JE wc T ([none, none, none, some 8, some 8, none, none, none, none] : List (Option Nat)) ([(8, 3), (8, 4)] : List (Nat × Nat)) 8 8 (fun w9 => ∃ D9, wc.heap.size ≤ D9 ∧ TB w9 D9 (.slice none 0 0) [] ∧ Bk w9 M 115 (stC m n (pk m n (k + 1)) (dk (updF D k D9) (k + 1))).toArray ∧ Bk w9 g 3 (homeC 16 n).toArray ∧ TS w9 w.heap.size k D r v ∧ Ex w w9)) (by kernel_rfl) (by kernel_rfl) (by kernel_rfl) (fitB_spec (by kernel_rfl)) (fun listed f h => JE.start listed f h) ?_ ?_
 ·intro i o ho
  have hi : i < 9 := (Array.getElem?_eq_some_iff.1 ho).1
  have hi' : i = 0 ∨ i = 1 ∨ i = 2 ∨ i = 3 ∨ i = 4 ∨ i = 5 ∨ i = 6 ∨ i = 7 ∨ i = 8 := by omega
  clear hi
  rcases hi' with rfl | rfl | rfl | rfl | rfl | rfl | rfl | rfl | rfl
  all_goals (simp only [List.getElem?_toArray, List.getElem?_cons_zero, List.getElem?_cons_succ, Option.some.injEq] at ho; subst ho; intro listed f a w3 hJ hsz hls hun hdep hout hlat; first | (rw [if_pos (by rfl)]; intro K hK) | skip)
  ·have q5 := hout 5 (outB_spec (by kernel_rfl))
   refine wp_mv _ rfl (hK _ _ ?_)
   rw [show a.eval (.tmp 5) = .pointer (some ⟨M, 0, none⟩) from q5]
   exact hJ.plain (by rw [hls]; decide) hFst (by decide) (Ex.refl _) (by rw [hT]; rfl) (no_head (by decide))
  ·have q6 := hout 6 (outB_spec (by kernel_rfl))
   refine wp_mv _ rfl (hK _ _ ?_)
   rw [show a.eval (.tmp 6) = .int .i64 (k : Int) from q6]
   exact hJ.plain (by rw [hls]; decide) hFst (by decide) (Ex.refl _) (by rw [hT]; rfl) (no_head (by decide))
  ·have q8 := hout 8 (outB_spec (by kernel_rfl))
   refine wp_mv _ rfl (hK _ _ ?_)
   rw [show a.eval (.tmp 8) = .int .i64 rl from q8]
   exact hJ.plain (by rw [hls]; decide) hFst (by decide) (Ex.refl _) (by rw [hT]; rfl) (no_head (by decide))
  ·have hcut : listed.getD 8 false = false := by
    cases hc : listed.getD 8 false with
    | false => rfl
    | true =>
     have hc0 := hJ.ord (8, 3) (by simp) hc
     exact absurd hc0 (by rw [hun]; decide)
   have hpre := hJ.pre hcut
   clear hsz hdep hout hlat
   go_simp
   refine (tnew_any w3).mono ?_
   rintro e w4 ⟨D9, rfl, h1, h2, x4⟩
   exact hK _ _ (hJ.plain (by rw [hls]; decide) hFst (by decide) x4 (by rw [hT]; exact ⟨D9, rfl, Nat.le_trans hpre.sz' h1, h2⟩) (no_head (by decide)))
  ·have dd41 := hdep ⟨2, .data⟩ (by simp) rfl
   have q41 := dd41.2 _ rfl _ rfl
   have h41 := hJ.vals 2 dd41.1 (fun c hc => by have hc : none = some c := hc; cases hc)
   rw [hT] at h41
   rw [show f 2 = .int .i64 rl from h41] at q41
   clear h41
   clear dd41
   have dd42 := hdep ⟨3, .data⟩ (by simp) rfl
   have q42 := dd42.2 _ rfl _ rfl
   have hcut : listed.getD 8 false = false := by
    cases hc : listed.getD 8 false with
    | false => rfl
    | true =>
     have hc0 := hJ.ord (8, 4) (by simp) hc
     exact absurd hc0 (by rw [hun]; decide)
   have h42 := hJ.vals 3 dd42.1 (fun c hc => by have hc : some 8 = some c := hc; cases hc; exact hcut)
   rw [hT] at h42
   have h42 : (fun v9 w9 => ∃ D9, v9 = .pointer (some ⟨D9, 0, none⟩) ∧ wc.heap.size ≤ D9 ∧ TB w9 D9 (.slice none 0 0) []) (f 3) w3 := h42
   obtain ⟨D42, e42, l42, b42⟩ := h42
   rw [e42] at q42
   clear dd42
   refine wp_build _ _ rfl (partC ⟨rl, 1, 0⟩ (some D42)).toArray ?_ (hK _ _ (hJ.plain (by rw [hls]; decide) hFst (by decide) (Ex.refl _) (by rw [hT]; exact ⟨D42, rfl, l42, b42⟩) (no_head (by decide))))
   simp only [List.map_cons, List.map_nil, show a.eval (.tmp 41) = _ from q41, show a.eval (.tmp 42) = _ from q42]
   exact built_part rl 1 D42
  ·have dd39 := hdep ⟨0, .data⟩ (by simp) rfl
   have q39 := dd39.2 _ rfl _ rfl
   have h39 := hJ.vals 0 dd39.1 (fun c hc => by have hc : none = some c := hc; cases hc)
   rw [hT] at h39
   rw [show f 0 = .pointer (some ⟨M, 0, none⟩) from h39] at q39
   clear h39
   clear dd39
   rw [Array.getD_eq_getD_getElem?] at q39
   clear hsz hdep hout hlat
   go_simp
   exact hK _ _ (hJ.plain (by rw [hls]; decide) hFst (by decide) (Ex.refl _) (by rw [hT]; first | rfl | exact congrArg (Value.int .i64) (by omega) | exact congrArg (Value.int .i64) (by rw [IntKind.wrap_i64]; omega)) (no_head (by decide)))
  ·have dd44 := hdep ⟨5, .data⟩ (by simp) rfl
   have q44 := dd44.2 _ rfl _ rfl
   have h44 := hJ.vals 5 dd44.1 (fun c hc => by have hc : none = some c := hc; cases hc)
   rw [hT] at h44
   rw [show f 5 = .pointer (some ⟨M, 0, none⟩) from h44] at q44
   clear h44
   clear dd44
   rw [Array.getD_eq_getD_getElem?] at q44
   clear hsz hdep hout hlat
   go_simp
   exact hK _ _ (hJ.plain (by rw [hls]; decide) hFst (by decide) (Ex.refl _) (by rw [hT]; first | rfl | exact congrArg (Value.int .i64) (by omega) | exact congrArg (Value.int .i64) (by rw [IntKind.wrap_i64]; omega)) (no_head (by decide)))
  ·have dd45 := hdep ⟨6, .data⟩ (by simp) rfl
   have q45 := dd45.2 _ rfl _ rfl
   have h45 := hJ.vals 6 dd45.1 (fun c hc => by have hc : none = some c := hc; cases hc)
   rw [hT] at h45
   rw [show f 6 = .pointer (some ⟨M, 2, none⟩) from h45] at q45
   clear h45
   clear dd45
   have dd40 := hdep ⟨1, .data⟩ (by simp) rfl
   have q40 := dd40.2 _ rfl _ rfl
   have h40 := hJ.vals 1 dd40.1 (fun c hc => by have hc : none = some c := hc; cases hc)
   rw [hT] at h40
   rw [show f 1 = .int .i64 (k : Int) from h40] at q40
   clear h40
   clear dd40
   rw [Array.getD_eq_getD_getElem?] at q45 q40
   clear hsz hdep hout hlat
   go_simp
   exact hK _ _ (hJ.plain (by rw [hls]; decide) hFst (by decide) (Ex.refl _) (by rw [hT]; first | rfl | exact congrArg (Value.int .i64) (by omega) | exact congrArg (Value.int .i64) (by rw [IntKind.wrap_i64]; omega)) (no_head (by decide)))
  have dd46 := hdep ⟨7, .data⟩ (by simp) rfl
  have q46 := dd46.2 _ rfl _ rfl
  have h46 := hJ.vals 7 dd46.1 (fun c hc => by have hc : none = some c := hc; cases hc)
  rw [hT] at h46
  rw [show f 7 = .pointer (some ⟨M, 2 + k * 4, none⟩) from h46] at q46
  clear h46
  clear dd46
  have dd43 := hdep ⟨4, .data⟩ (by simp) rfl
  have q43 := dd43.2 _ rfl _ rfl
  have h43 := hJ.vals 4 dd43.1 (fun c hc => by have hc : some 8 = some c := hc; cases hc; exact hun)
  rw [hT] at h43
  have h43 : (fun v9 w9 => ∃ D9, v9 = .agg (partC ⟨rl, 1, 0⟩ (some D9)).toArray ∧ wc.heap.size ≤ D9 ∧ TB w9 D9 (.slice none 0 0) []) (f 4) w3 := h43
  obtain ⟨D43, e43, l43, b43⟩ := h43
  rw [e43] at q43
  clear dd43
  have hl3 := (hdep ⟨3, .chain⟩ (by simp) rfl).1
  have hl4 := (hdep ⟨4, .data⟩ (by simp) rfl).1
  have hord : ∀ x ∈ ([(8, 3), (8, 4)] : List (Nat × Nat)), x.1 = 8 → listed.getD x.2 false = true := (by intro x hx he; simp only [List.mem_cons, List.not_mem_nil, or_false] at hx; rcases hx with rfl | rfl; all_goals first | (exact absurd he (by decide)) | assumption)
  have hcut := hun
  have hpre := hJ.pre hcut
  have hc1 : ∀ j, j ≠ 8 → ([true, true, true, false, false, true, true, true, true] : List Bool).getD j true = false → listed.getD j false = true → ∃ c, (([none, none, none, some 8, some 8, none, none, none, none] : List (Option Nat))).getD j none = some c ∧ (c = 8 ∨ listed.getD c false = true) := by
   intro j hj hfj hl
   have hm : j = 3 ∨ j = 4 := by
    rcases Nat.lt_or_ge j 9 with h | h
    ·have hk : j = 0 ∨ j = 1 ∨ j = 2 ∨ j = 3 ∨ j = 4 ∨ j = 5 ∨ j = 6 ∨ j = 7 ∨ j = 8 := by omega
     rcases hk with rfl | rfl | rfl | rfl | rfl | rfl | rfl | rfl | rfl <;> first | (exact absurd hfj (by decide)) | simp
    ·rw [List.getD_eq_getElem?_getD, List.getElem?_eq_none (by simpa using h)] at hfj; cases hfj
   rcases hm with rfl | rfl
   ·exact ⟨8, rfl, Or.inl rfl⟩
   ·exact ⟨8, rfl, Or.inl rfl⟩
  have hb := P.out.1.ext hpre
  refine wp_stp (C := stC m n (pk m n k) (dk D k)) (partC ⟨rl, 1, 0⟩ (some D43)) _ _ M (2 + k * 4) rfl q46 q43 hb (by rw [stC_len]; show 2 + k * 4 + 4 ≤ 66; omega) (by rw [Try.sizePart]; rfl) (part_ones _ _) (fun w5 hd ho => ?_)
  have kt : Kt [115] 0 w3 w5 := Kt.md ho.md (Nat.zero_le _) hb (List.mem_singleton.2 rfl)
  have hfin : ∃ D9, wc.heap.size ≤ D9 ∧ TB w5 D9 (.slice none 0 0) [] ∧ Bk w5 M 115 (stC m n (pk m n (k + 1)) (dk (updF D k D9) (k + 1))).toArray ∧ Bk w5 g 3 (homeC 16 n).toArray ∧ TS w5 w.heap.size k D r v ∧ Ex w w5 := ⟨D43, l43, b43.kts kt (by decide) (by decide) (by decide), by rw [← pk_next, ← dk_next, HP.out, ← stC_part m n _ _ _ _ hlt]; exact hd, kt.bk (HB.out.ext hpre) (by decide), (P.out.2.1.ext hpre).kts kt (by decide) (by decide) (by decide), ho.below w.heap.size (Nat.le_of_eq HM.out.symm) w (Ex.trans P.out.2.2.1 hpre)⟩
  exact hK _ _ (hJ.mod (by rw [hls]; decide) HFX (by rw [hT]; exact trivial) hc1 (Or.inl rfl) (fun _ => hfin) hord)
 intro listed f w3 hall hJ
 have xf : (fun w9 => ∃ D9, wc.heap.size ≤ D9 ∧ TB w9 D9 (.slice none 0 0) [] ∧ Bk w9 M 115 (stC m n (pk m n (k + 1)) (dk (updF D k D9) (k + 1))).toArray ∧ Bk w9 g 3 (homeC 16 n).toArray ∧ TS w9 w.heap.size k D r v ∧ Ex w w9) w3 := hJ.fin (hall 8 (by simp))
 simp only [putAll, Act.put, List.setIfInBounds_toArray, List.set_cons_zero, List.set_cons_succ, Nat.zero_add, Nat.reduceAdd]
 clear hJ hall hT HFX hFst
 obtain ⟨D9, h1, h2, h3, h4, h5, h6⟩ := xf
 have P2 : Hid (Bk w3 M 115 (stC m n (pk m n (k + 1)) (dk (updF D k D9) (k + 1))).toArray ∧ TS w3 w.heap.size (k + 1) (updF D k D9) (updF r k (.slice none 0 0)) (updF v k []) ∧ Ex w w3 ∧ ∀ i, i < k + 1 → updF v k [] i = []) := Hi ⟨h3, P.out.2.1.push h5 h1 (Nat.le_trans P.out.2.2.1.sz' h1) h2, h6, fun i hi => by
       by_cases e : i = k
       ·rw [e, updF_same]
       ·rw [updF_ne _ _ e]; exact P.out.2.2.2 i (by omega)⟩
 replace HB := Hi h4
 clear P h1 h2 h3 h4 h5 h6
 go_wp2_with fail
 (first | (refine ⟨?_, ?measure⟩; (repeat apply Exists.intro); refine ⟨?rel, rfl⟩) | refine ⟨?rel, ?measure⟩)
 case rel => exact ⟨k + 1, _, _, _, by omega, by go_num, HB, P2⟩
 case measure => simp [intOf]; omega
end Go.Proofs.Ytmjfnpmnhehnkaa
