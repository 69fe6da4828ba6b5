/- Sa, Sb, Sc -/
import Derived.Test.YtmjfnpmnhehnkaaQao
import Derived.Test.YtmjfnpmnhehnkaaQao
import Derived.Test.YtmjfnpmnhehnkaaQao
import Derived.Laws.MakeOwn
import Derived.Deep.DeepCutAuto
set_option maxRecDepth 100000
set_option maxHeartbeats 16000000
namespace Go.Proofs.Ytmjfnpmnhehnkaa
open Go.RowKit
structure Pa where
 role : Int
 ep : Int
 tw : Int
structure Pa.Ok (x : Pa) : Prop where
 role : i64 x.role
 ep : 0 ≤ x.ep ∧ x.ep < 18446744073709551616
 tw : i64 x.tw
def partC (p : Pa) (d : Option Nat) : List Value := [.int .i64 p.role, .int .u64 p.ep, .int .i64 p.tw, .pointer (d.map fun g => ⟨g, 0, none⟩)]
def stC (m n : Int) (p : Nat → Pa) (D : Nat → Option Nat) : List Value := [.int .i64 m, .int .i64 n] ++ (List.range 16).flatMap fun i => partC (p i) (D i)
theorem stC_len (m n : Int) (p : Nat → Pa) (D : Nat → Option Nat) : (stC m n p D).length = 66 := rfl
theorem range_part (p : Nat → Pa) (D : Nat → Option Nat) : ∀ (N i j : Nat), i < N → j < 4 → ((List.range N).flatMap fun i => partC (p i) (D i))[i * 4 + j]? = (partC (p i) (D i))[j]?
 | 0, i, j, h, _ => absurd h (Nat.not_lt_zero i)
 | N + 1, i, j, h, hj => by
  have hl : ∀ N, ((List.range N).flatMap fun i => partC (p i) (D i)).length = N * 4 := fun N => by
   induction N with
   | zero => rfl
   | succ N ih => rw [List.range_succ, List.flatMap_append, List.length_append, ih]; simp [partC]; omega
  rw [List.range_succ, List.flatMap_append]
  rcases Nat.lt_or_ge i N with h1 | h1
  ·rw [List.getElem?_append_left (by rw [hl]; omega)]
   exact range_part p D N i j h1 hj
  ·obtain rfl : i = N := by omega
   rw [List.getElem?_append_right (by rw [hl]; omega), hl, Nat.add_sub_cancel_left]
   simp
theorem stC_at (m n : Int) (p : Nat → Pa) (D : Nat → Option Nat) {i j : Nat} (hi : i < 16) (hj : j < 4) : (stC m n p D)[2 + i * 4 + j]? = (partC (p i) (D i))[j]? := by
 unfold stC
 rw [List.getElem?_append_right (by simp; omega), show 2 + i * 4 + j - [Value.int .i64 m, Value.int .i64 n].length = i * 4 + j by simp; omega]
 exact range_part p D 16 i j hi hj
theorem stC_ext {m n : Int} {p : Nat → Pa} {D : Nat → Option Nat} {L : List Value} (hl : L.length = 66) (h0 : L[0]? = some (.int .i64 m)) (h1 : L[1]? = some (.int .i64 n)) (h : ∀ i j, i < 16 → j < 4 → L[2 + i * 4 + j]? = (partC (p i) (D i))[j]?) : L = stC m n p D := by
 apply List.ext_getElem?
 intro k
 rcases (show k = 0 ∨ k = 1 ∨ 66 ≤ k ∨ ∃ i j, i < 16 ∧ j < 4 ∧ k = 2 + i * 4 + j by
  rcases Nat.lt_or_ge k 2 with h | h
  ·omega
  ·rcases Nat.lt_or_ge k 66 with h2 | h2
   ·exact Or.inr (Or.inr (Or.inr ⟨(k - 2) / 4, (k - 2) % 4, by omega, by omega, by omega⟩))
   ·omega) with rfl | rfl | hk | ⟨i, j, hi, hj, rfl⟩
 ·exact h0
 ·exact h1
 ·rw [List.getElem?_eq_none (by omega), List.getElem?_eq_none (by rw [stC_len]; omega)]
 rw [h i j hi hj, stC_at m n p D hi hj]
theorem stC_part (m n : Int) (p : Nat → Pa) (D : Nat → Option Nat) (q : Pa) (d : Option Nat) {i : Nat} (hi : i < 16) : (stC m n p D).take (2 + i * 4) ++ partC q d ++ (stC m n p D).drop (2 + i * 4 + (partC q d).length) = stC m n (updF p i q) (updF D i d) := by
 have hq : (partC q d).length = 4 := rfl
 have hA : ((stC m n p D).take (2 + i * 4) ++ partC q d).length = 2 + i * 4 + 4 := by rw [List.length_append, List.length_take, stC_len, hq]; omega
 have ht : ((stC m n p D).take (2 + i * 4)).length = 2 + i * 4 := by rw [List.length_take, stC_len]; omega
 refine stC_ext ?_ ?_ ?_ ?_
 ·rw [List.length_append, hA, List.length_drop, stC_len, hq]; omega
 ·rw [List.append_assoc, List.getElem?_append_left (by rw [ht]; omega), List.getElem?_take, if_pos (by omega)]; rfl
 ·rw [List.append_assoc, List.getElem?_append_left (by rw [ht]; omega), List.getElem?_take, if_pos (by omega)]; rfl
 intro a j ha hj
 rcases Nat.lt_trichotomy a i with h | rfl | h
 ·rw [List.append_assoc, List.getElem?_append_left (by rw [ht]; omega), List.getElem?_take, if_pos (by omega), stC_at m n p D ha hj, updF_ne _ _ (by omega), updF_ne _ _ (by omega)]
 ·rw [List.getElem?_append_left (by rw [hA]; omega), List.getElem?_append_right (by rw [ht]; omega), ht, Nat.add_sub_cancel_left, updF_same, updF_same]
 rw [List.getElem?_append_right (by rw [hA]; omega), hA, List.getElem?_drop, hq, show 2 + i * 4 + 4 + (2 + a * 4 + j - (2 + i * 4 + 4)) = 2 + a * 4 + j by omega, stC_at m n p D ha hj, updF_ne _ _ (by omega), updF_ne _ _ (by omega)]
theorem stC_set (m n : Int) (p : Nat → Pa) (D : Nat → Option Nat) (q : Pa) {i j : Nat} (v : Value) (hi : i < 16) (hj : j < 4) (hq : (partC (p i) (D i)).set j v = partC q (D i)) : (stC m n p D).set (2 + i * 4 + j) v = stC m n (updF p i q) D := by
 refine stC_ext (by rw [List.length_set, stC_len]) ?_ ?_ ?_
 ·rw [List.getElem?_set_ne (by omega)]; rfl
 ·rw [List.getElem?_set_ne (by omega)]; rfl
 intro a b ha hb
 by_cases e : a = i
 ·subst e
  rw [updF_same, ← hq]
  by_cases e2 : b = j
  ·subst e2
   rw [List.getElem?_set_self (by rw [stC_len]; omega), List.getElem?_set_self (by show b < 4; omega)]
  rw [List.getElem?_set_ne (by omega), List.getElem?_set_ne (fun e => e2 e.symm), stC_at m n p D ha hb]
 rw [List.getElem?_set_ne (by omega), stC_at m n p D ha hb, updF_ne _ _ e]
structure SS (w : World) (B M : Nat) (m n : Int) (p : Nat → Pa) (D : Nat → Nat) (r : Nat → Value) (v : Nat → List Vt) : Prop where
 blk : Bk w M 115 (stC m n p (fun i => some (D i))).toArray
 ts : TS w B 16 D r v
 ok : ∀ i, i < 16 → (p i).Ok
 mok : i64 m ∧ i64 n
theorem SS.ext {w w' : World} {B M : Nat} {m n : Int} {p : Nat → Pa} {D : Nat → Nat} {r : Nat → Value} {v : Nat → List Vt} (h : SS w B M m n p D r v) (k : Ex w w') : SS w' B M m n p D r v := ⟨h.blk.ext k, h.ts.ext k, h.ok, h.mok⟩
theorem SS.cells {w : World} {B M : Nat} {m n : Int} {p : Nat → Pa} {D : Nat → Nat} {r : Nat → Value} {v : Nat → List Vt} (h : SS w B M m n p D r v) {i : Nat} (hi : i < 16) : w.cell? ⟨M, 2 + i * 4, none⟩ = some (.int .i64 (p i).role) ∧ w.cell? ⟨M, 2 + i * 4 + 1, none⟩ = some (.int .u64 (p i).ep) ∧ w.cell? ⟨M, 2 + i * 4 + 2, none⟩ = some (.int .i64 (p i).tw) ∧ w.cell? ⟨M, 2 + i * 4 + 3, none⟩ = some (.pointer (some ⟨D i, 0, none⟩)) :=
 ⟨(h.blk.cell _).trans (by rw [List.getElem?_toArray]; exact stC_at m n p _ hi (show 0 < 4 by decide)), (h.blk.cell _).trans (by rw [List.getElem?_toArray]; exact stC_at m n p _ hi (show 1 < 4 by decide)), (h.blk.cell _).trans (by rw [List.getElem?_toArray]; exact stC_at m n p _ hi (show 2 < 4 by decide)), (h.blk.cell _).trans (by rw [List.getElem?_toArray]; exact stC_at m n p _ hi (show 3 < 4 by decide))⟩
theorem SS.heads {w : World} {B M : Nat} {m n : Int} {p : Nat → Pa} {D : Nat → Nat} {r : Nat → Value} {v : Nat → List Vt} (h : SS w B M m n p D r v) : w.cell? ⟨M, 0, none⟩ = some (.int .i64 m) ∧ w.cell? ⟨M, 1, none⟩ = some (.int .i64 n) := ⟨(h.blk.cell _).trans rfl, (h.blk.cell _).trans rfl⟩
def homeN (n : Int) : Int := min (max n 1) 8
def homeC (k : Nat) (n : Int) : List Value := (List.range 16).map fun i => if i < k then .int .i64 ((i : Int) % homeN n) else .int .i64 0
theorem homeC_len (k : Nat) (n : Int) : (homeC k n).length = 16 := by unfold homeC; rw [List.length_map, List.length_range]
theorem homeC_set (k : Nat) (n : Int) : (homeC k n).set k (.int .i64 ((k : Int) % homeN n)) = homeC (k + 1) n := by
 apply List.ext_getElem?
 intro i
 by_cases e : k = i
 ·subst e
  by_cases h : k < 16
  ·rw [List.getElem?_set_self (by rw [homeC_len]; exact h)]
   unfold homeC
   rw [List.getElem?_map, List.getElem?_range h]
   simp
  rw [List.getElem?_eq_none (by rw [List.length_set, homeC_len]; omega), List.getElem?_eq_none (by rw [homeC_len]; omega)]
 rw [List.getElem?_set_ne e]
 unfold homeC
 rw [List.getElem?_map, List.getElem?_map]
 by_cases h : i < 16
 ·rw [List.getElem?_range h]
  simp only [Option.map_some, Option.some.injEq]
  by_cases h2 : i < k
  ·rw [if_pos h2, if_pos (by omega)]
  rw [if_neg h2, if_neg (by omega)]
 rw [List.getElem?_eq_none (by rw [List.length_range]; omega)]; rfl
theorem homeC_at (n : Int) {i : Nat} (hi : i < 16) : (homeC 16 n)[i]? = some (.int .i64 ((i : Int) % homeN n)) := by
 unfold homeC
 rw [List.getElem?_map, List.getElem?_range hi]
 simp [hi]
theorem shr_any (n : Int) (w : World) : Calls Try.prog 105 #[.int .i64 n] w fun e w' => e = .returned (.bool (decide (0 ≤ n ∧ n < 16))) ∧ w = w' := by
 by_cases h0 : 0 ≤ n
 ·by_cases h1 : n < 16
  ·rw [decide_eq_true (And.intro h0 h1)]
   go_enter Try.func105, Try.ntmps105
   go_wp2_with fail
   go_ret
   exact ⟨rfl, rfl⟩
  rw [decide_eq_false (fun h : 0 ≤ n ∧ n < 16 => h1 h.2)]
  go_enter Try.func105, Try.ntmps105
  go_wp2_with fail
  go_ret
  exact ⟨rfl, rfl⟩
 rw [decide_eq_false (fun h : 0 ≤ n ∧ n < 16 => h0 h.1)]
 go_enter Try.func105, Try.ntmps105
 go_wp2_with fail
 go_ret
 exact ⟨rfl, rfl⟩
theorem isshard_any (n : Int) (w : World) : Calls Try.prog 62 #[.int .i64 n] w fun e w' => e = .returned (.bool (decide (0 ≤ n ∧ n < 16))) ∧ w = w' := by
 obtain ⟨b, hb⟩ : ∃ b, b = decide (0 ≤ n ∧ n < 16) := ⟨_, rfl⟩
 rw [← hb]
 have C := Hi (shr_any n w)
 rw [← hb] at C
 clear hb
 go_enter Try.func62, Try.ntmps62
 go_wp2_with fail
 refine C.out.mono ?_
 rintro e w2 ⟨rfl, rfl⟩
 go_wp2_with fail
 go_ret
 exact ⟨rfl, rfl⟩
theorem first_any (i : Nat) (hi : i < 16) (n : Int) (hn : i64 n) (w : World) : Calls Try.prog 97 #[.int .i64 i, .int .i64 n] w fun e w' => e = .returned (.int .i64 ((i : Int) % homeN n)) ∧ w = w' := by
 have hN : 1 ≤ homeN n ∧ homeN n ≤ 8 := by unfold homeN; omega
 have q0 : (0 : Int) ≤ (i : Int) := by omega
 go_enter Try.func97, Try.ntmps97
 go_wp2_with fail
 refine (shr_any (i : Int) w).mono ?_
 rintro e w2 ⟨rfl, rfl⟩
 rw [decide_eq_true (show (0 : Int) ≤ (i : Int) ∧ (i : Int) < 16 by omega)]
 go_wp2_with fail
 go_ret
 exact ⟨rfl, rfl⟩
theorem Try.infoI : (Try.prog.info? 3).map (fun i => (i.zero, i.size, i.bytes)) = some (some (.int .i64 0), 1, 8) := by kernel_rfl
theorem run_mk16 (n : Int) (w : World) : (Instr.makeSlice 61 (.int .i64 16) (.int .i64 16)).run Try.prog w = .ok (.slice (some ⟨w.heap.size, 0, none⟩) 16 16) (w.alloc (.cells (homeC 0 n).toArray 3)) := by
 obtain ⟨i0, hi0, hz0, hz1, hz2⟩ := info_parts Try.infoI
 have h := run_makeSlice (P := Try.prog) (w := w) 61 3 i0 (.int .i64 0) Try.underlying61 hi0 hz0 .i64 .i64 16 16 (by decide) (by decide) (by rw [hz1]; decide) (by rw [hz2]; decide) (by decide)
 rw [hz1] at h
 have e : madeCells (Value.int .i64 0).cells (Int.toNat 16 * 1) = (homeC 0 n).toArray := by
  unfold madeCells homeC
  apply Array.ext'
  simp [Value.cells, Nat.mod_one]
 rw [e] at h
 exact h
theorem home_any (n : Int) (hn : i64 n) (w : World) : Calls Try.prog 57 #[.int .i64 n] w fun e w' => ∃ g, e = .returned (.slice (some ⟨g, 0, none⟩) 16 16) ∧ Bk w' g 3 (homeC 16 n).toArray ∧ Ex w w' := by
 go_enter Try.func57, Try.ntmps57
 go_wp2_with fail
 rw [run_mk16 n w]
 simp only [Result.andThen]
 rw [Oper.upon_value]
 go_wp2_with fail
 change Code.wp _ _ _ _ (w.alloc (.cells (homeC 0 n).toArray 3))
 have B0 : Hid (Bk (w.alloc (.cells (homeC 0 n).toArray 3)) w.heap.size 3 (homeC 0 n).toArray) := Hi (Bk.new rfl _ _)
 have X0 : Hid (Ex w (w.alloc (.cells (homeC 0 n).toArray 3))) := Hi (Ex.alloc w _)
 obtain ⟨g, hg⟩ : ∃ M, M = w.heap.size := ⟨_, rfl⟩
 generalize hw1 : (w.alloc (.cells (homeC 0 n).toArray 3)) = w1 at *
 rw [← hg] at B0 ⊢
 have HG := Hi hg
 clear hw1 hg
 go_loopw [8] (fun i wr => ∃ k : Nat, k ≤ 16 ∧ i = .int .i64 k ∧ Hid (Bk wr g 3 (homeC k n).toArray) ∧ Hid (Ex w wr)) (fun i _ => 16 - (intOf i).toNat)
 case atStart => exact ⟨0, by omega, rfl, B0, X0⟩
 clear B0 X0
 obtain ⟨k, hk, rfl, BH, BX⟩ := hrel
 by_cases hlt : k < 16
 ·have q0 : (0 : Int) ≤ (k : Int) := by omega
  have q1 : (k : Int) < 16 := by omega
  go_wp2_with fail
  refine (first_any k hlt n hn wr).mono ?_
  rintro e w2 ⟨rfl, rfl⟩
  go_wp2_with ((with_reducible refine so4 [1000 + 3] ?_ ?_); (focus rfl))
  refine at9 (by go_simp) fun K0 hK => wp_st1 _ _ g k (.int .i64 ((k : Int) % homeN n)) rfl rfl rfl BH.out (by rw [homeC_len]; exact hlt) (by kernel_rfl) rfl (fun w3 hd ho => hK _ _ ?_)
  clear hK
  replace BH : Hid (Bk w3 g 3 (homeC (k + 1) n).toArray) := Hi (by rw [← homeC_set]; exact hd)
  replace BX := Hi (ho.below w.heap.size (Nat.le_of_eq HG.out.symm) w BX.out)
  clear hd ho
  go_wp2_with fail
  (first | (refine ⟨?_, ?measure⟩; (repeat apply Exists.intro); refine ⟨?rel, rfl⟩) | refine ⟨?rel, ?measure⟩)
  case rel => exact ⟨k + 1, by omega, by go_num, BH, BX⟩
  case measure => simp [intOf]; omega
 obtain rfl : k = 16 := by omega
 go_wp2_with fail
 go_ret
 exact ⟨g, rfl, BH.out, BX.out⟩
end Go.Proofs.Ytmjfnpmnhehnkaa
namespace Go.Proofs.Ytmjfnpmnhehnkaa
open Go.RowKit
def newP (m n : Int) (i : Nat) : Pa := ⟨if (i : Int) % n = m then 1 else 0, 1, 0⟩
theorem newP_ok (m n : Int) (i : Nat) : (newP m n i).Ok := ⟨by unfold newP i64; simp only; split <;> omega, by unfold newP; simp only; omega, by unfold newP i64; simp only; omega⟩
def pk (m n : Int) (k : Nat) : Nat → Pa := fun i => if i < k then newP m n i else ⟨0, 0, 0⟩
def dk (D : Nat → Nat) (k : Nat) : Nat → Option Nat := fun i => if i < k then some (D i) else none
theorem pk_next (m n : Int) (k : Nat) : updF (pk m n k) k (newP m n k) = pk m n (k + 1) := by
 funext i
 unfold updF pk
 split
 ·rename_i h; rw [h, if_pos (Nat.lt_succ_self k)]
 rename_i h
 by_cases h2 : i < k
 ·rw [if_pos h2, if_pos (by omega)]
 rw [if_neg h2, if_neg (by omega)]
theorem dk_next (D : Nat → Nat) (k d : Nat) : updF (dk D k) k (some d) = dk (updF D k d) (k + 1) := by
 funext i
 unfold updF dk
 split
 ·rename_i h; rw [h, if_pos (Nat.lt_succ_self k)]; show some d = some (if k = k then d else D k); rw [if_pos rfl]
 rename_i h
 by_cases h2 : i < k
 ·rw [if_pos h2, if_pos (by omega)]; show some (D i) = some (if i = k then d else D i); rw [if_neg h]
 rw [if_neg h2, if_neg (by omega)]
theorem stC_congr {m n : Int} {p q : Nat → Pa} {D E : Nat → Option Nat} (hp : ∀ i, i < 16 → p i = q i) (hd : ∀ i, i < 16 → D i = E i) : stC m n p D = stC m n q E :=
 stC_ext (stC_len _ _ _ _) rfl rfl (fun i j hi hj => by rw [stC_at m n p D hi hj, hp i hi, hd i hi])
theorem built_st (m n : Int) : Try.prog.built 115 [(0, .int .i64 m), (1, .int .i64 n)] = some (stC m n (pk m n 0) (dk (fun _ => 0) 0)).toArray := by kernel_rfl
theorem built_part (a c : Int) (D : Nat) : Try.prog.built 112 [(0, .int .i64 a), (1, .int .u64 c), (3, .pointer (some ⟨D, 0, none⟩))] = some (partC ⟨a, c, 0⟩ (some D)).toArray := by kernel_rfl
theorem Try.sizePart : (Try.prog.info? 112).map (·.size) = some 4 := by kernel_rfl
theorem part_ones (p : Pa) (d : Option Nat) : (partC p d).toArray.all (·.oneCell') = true := all_oneCell_toArray (by
 intro v hv
 simp only [partC, List.mem_cons, List.not_mem_nil, or_false] at hv
 rcases hv with rfl | rfl | rfl | rfl <;> rfl)
def SNewPost (m n : Int) (w : World) (e : Ending) (w' : World) : Prop := ∃ (M : Nat) (D : Nat → Nat) (r : Nat → Value) (v : Nat → List Vt), e = .returned (.pointer (some ⟨M, 0, none⟩)) ∧ SS w' w.heap.size M m n (newP m n) D r v ∧ w.heap.size ≤ M ∧ (∀ i, i < 16 → v i = []) ∧ Ex w w'
theorem snew_bad (m n : Int) (w : World) (h : ¬ (1 ≤ n ∧ n ≤ 8 ∧ 0 ≤ m ∧ m < n)) : Calls Try.prog 16 #[.int .i64 m, .int .i64 n] w fun e w' => e = .returned (.pointer none) ∧ w = w' := by
 by_cases h1 : n < 1
 ·go_enter Try.func16, Try.ntmps16
  go_wp2_with fail
  go_ret
  exact ⟨rfl, rfl⟩
 by_cases h2 : 8 < n
 ·go_enter Try.func16, Try.ntmps16
  go_wp2_with fail
  go_ret
  exact ⟨rfl, rfl⟩
 by_cases h3 : m < 0
 ·go_enter Try.func16, Try.ntmps16
  go_wp2_with fail
  go_ret
  exact ⟨rfl, rfl⟩
 have h4 : n ≤ m := by omega
 go_enter Try.func16, Try.ntmps16
 go_wp2_with fail
 go_ret
 exact ⟨rfl, rfl⟩
theorem snew_any (m n : Int) (w : World) (hg : 1 ≤ n ∧ n ≤ 8 ∧ 0 ≤ m ∧ m < n) : Calls Try.prog 16 #[.int .i64 m, .int .i64 n] w (SNewPost m n w) := by
 obtain ⟨g1, g2, g3, g4⟩ := hg
 have h1 : ¬ n < 1 := by omega
 have h2 : ¬ 8 < n := by omega
 have h3 : ¬ m < 0 := by omega
 have h4 : ¬ n ≤ m := by omega
 have hN : homeN n = n := by unfold homeN; omega
 have HN := Hi hN
 clear hN
 go_enter Try.func16, Try.ntmps16
 go_wp2_with ((with_reducible refine so0 ?_ ?_); (focus rfl))
 refine at9 (by go_simp) fun K0 hK => wp_build _ _ rfl _ (built_st m n) (hK _ _ ?_)
 clear hK
 go_wp2_with fail
 have B0 : Hid (Bk (w.alloc (.cells (stC m n (pk m n 0) (dk (fun _ => 0) 0)).toArray 115)) w.heap.size 115 (stC m n (pk m n 0) (dk (fun _ => 0) 0)).toArray) := Hi (Bk.new rfl _ _)
 have X0 : Hid (Ex w (w.alloc (.cells (stC m n (pk m n 0) (dk (fun _ => 0) 0)).toArray 115))) := Hi (Ex.alloc w _)
 obtain ⟨M, hM⟩ : ∃ M, M = w.heap.size := ⟨_, rfl⟩
 generalize hw1 : (w.alloc (.cells (stC m n (pk m n 0) (dk (fun _ => 0) 0)).toArray 115)) = w1 at *
 rw [← hM] at B0 ⊢
 have HM := Hi hM
 clear hw1 hM
 refine (home_any n (by unfold i64; omega) w1).mono ?_
 rintro e w2 ⟨g, rfl, hb, x2⟩
 have HB := Hi hb
 replace B0 := Hi (B0.out.ext x2)
 replace X0 := Hi (Ex.trans X0.out x2)
 clear hb x2
 go_wp2_with fail
 go_loopw [31] (fun i wr => ∃ (k : Nat) (D : Nat → Nat) (r : Nat → Value) (v : Nat → List Vt), k ≤ 16 ∧ i = .int .i64 k ∧ Hid (Bk wr g 3 (homeC 16 n).toArray) ∧ Hid (Bk wr M 115 (stC m n (pk m n k) (dk D k)).toArray ∧ TS wr w.heap.size k D r v ∧ Ex w wr ∧ ∀ i, i < k → v i = [])) (fun i _ => 16 - (intOf i).toNat)
 case atStart => exact ⟨0, fun _ => 0, fun _ => .slice none 0 0, fun _ => [], by omega, rfl, HB, Hi ⟨B0.out, ⟨fun i hi => absurd hi (Nat.not_lt_zero i), fun i hi => absurd hi (Nat.not_lt_zero i), fun i j hi => absurd hi (Nat.not_lt_zero i), fun i j hi => absurd hi (Nat.not_lt_zero i)⟩, X0.out, fun i hi => absurd hi (Nat.not_lt_zero i)⟩⟩
 clear B0 X0 HB
 obtain ⟨k, D, r, v, hk, rfl, HB, P⟩ := hrel
 by_cases hlt : k < 16
 rotate_left
 ·obtain rfl : k = 16 := by omega
  go_wp2_with fail
  go_ret
  exact ⟨M, D, r, v, rfl, ⟨by rw [stC_congr (q := pk m n 16) (E := dk D 16) (fun i hi => (if_pos hi).symm) (fun i hi => (if_pos hi).symm)]; exact P.out.1, P.out.2.1, fun i _ => newP_ok m n i, by unfold i64; omega, by unfold i64; omega⟩, Nat.le_of_eq HM.out.symm, P.out.2.2.2, P.out.2.2.1⟩
 have q0 : (0 : Int) ≤ (k : Int) := by omega
 have q1 : (k : Int) < 16 := by omega
 obtain ⟨x, hx⟩ : ∃ x, x = (k : Int) % n := ⟨_, rfl⟩
 have c0 : wr.cell? ⟨g, k, none⟩ = some (.int .i64 x) := by rw [HB.out.cell, List.getElem?_toArray, homeC_at n hlt, HN.out, hx]
 obtain ⟨rl, hrl⟩ : ∃ rl : Int, rl = if x = m then 1 else 0 := ⟨_, rfl⟩
 have HP : Hid (newP m n k = ⟨rl, 1, 0⟩) := Hi (by rw [hrl, hx]; rfl)
 clear hx
 go_upto_if 38 with fail
 clear c0
 go_cut [8] (fun s8 wd => s8 = .int .i64 rl ∧ wd = wr)
 case first =>
  by_cases hxm : x = m
  ·rw [if_pos hxm] at hrl
   go_wp2_with fail
   go_meet
   case rel => exact ⟨by rw [hrl], rfl⟩
  rw [if_neg hxm] at hrl
  go_wp2_with fail
  go_meet
  case rel => exact ⟨by rw [hrl], rfl⟩
 obtain ⟨rfl, rfl⟩ := hcut
 clear hrl
 go_wp2_with fail
 obtain ⟨T, hT⟩ : ∃ T : List Sx, T = [.is (.pointer (some ⟨M, 0, none⟩)), .is (.int .i64 (k : Int)), .is (.int .i64 rl), .of (fun v9 w9 => ∃ D9, v9 = .pointer (some ⟨D9, 0, none⟩) ∧ wc.heap.size ≤ D9 ∧ TB w9 D9 (.slice none 0 0) []) (fun v9 _ _ h k => by obtain ⟨D9, h1, h2, h3⟩ := h; exact ⟨D9, h1, h2, h3.ext k⟩), .of (fun v9 w9 => ∃ D9, v9 = .agg (partC ⟨rl, 1, 0⟩ (some D9)).toArray ∧ wc.heap.size ≤ D9 ∧ TB w9 D9 (.slice none 0 0) []) (fun v9 _ _ h k => by obtain ⟨D9, h1, h2, h3⟩ := h; exact ⟨D9, h1, h2, h3.ext k⟩), .is (.pointer (some ⟨M, 0, none⟩)), .is (.pointer (some ⟨M, 2, none⟩)), .is (.pointer (some ⟨M, 2 + k * 4, none⟩)), .any] := ⟨_, rfl⟩
 have HFX : T.map Sx.fixed = [true, true, true, false, false, true, true, true, true] := by rw [hT]; rfl
 have hFst : ∀ wa wb, (fun w9 => ∃ D9, wc.heap.size ≤ D9 ∧ TB w9 D9 (.slice none 0 0) [] ∧ Bk w9 M 115 (stC m n (pk m n (k + 1)) (dk (updF D k D9) (k + 1))).toArray ∧ Bk w9 g 3 (homeC 16 n).toArray ∧ TS w9 w.heap.size k D r v ∧ Ex w w9) wa → Ex wa wb → (fun w9 => ∃ D9, wc.heap.size ≤ D9 ∧ TB w9 D9 (.slice none 0 0) [] ∧ Bk w9 M 115 (stC m n (pk m n (k + 1)) (dk (updF D k D9) (k + 1))).toArray ∧ Bk w9 g 3 (homeC 16 n).toArray ∧ TS w9 w.heap.size k D r v ∧ Ex w w9) wb := fun _ _ h k9 => by obtain ⟨D9, h1, h2, h3, h4, h5, h6⟩ := h; exact ⟨D9, h1, h2.ext k9, h3.ext k9, h4.ext k9, h5.ext k9, Ex.trans h6 k9⟩
 refine wp_region_gen (JE wc T ([none, none, none, some 8, some 8, none, none, none, none] : List (Option Nat)) ([(8, 3), (8, 4)] : List (Nat × Nat)) 8 8 (fun w9 => ∃ D9, wc.heap.size ≤ D9 ∧ TB w9 D9 (.slice none 0 0) [] ∧ Bk w9 M 115 (stC m n (pk m n (k + 1)) (dk (updF D k D9) (k + 1))).toArray ∧ Bk w9 g 3 (homeC 16 n).toArray ∧ TS w9 w.heap.size k D r v ∧ Ex w w9)) (by kernel_rfl) (by kernel_rfl) (by kernel_rfl) (fitB_spec (by kernel_rfl)) (fun listed f h => JE.start listed f h) ?_ ?_
 ·intro i o ho
  have hi : i < 9 := (Array.getElem?_eq_some_iff.1 ho).1
  have hi' : i = 0 ∨ i = 1 ∨ i = 2 ∨ i = 3 ∨ i = 4 ∨ i = 5 ∨ i = 6 ∨ i = 7 ∨ i = 8 := by omega
  clear hi
  rcases hi' with rfl | rfl | rfl | rfl | rfl | rfl | rfl | rfl | rfl
  all_goals (simp only [List.getElem?_toArray, List.getElem?_cons_zero, List.getElem?_cons_succ, Option.some.injEq] at ho; subst ho; intro listed f a w3 hJ hsz hls hun hdep hout hlat; first | (rw [if_pos (by rfl)]; intro K hK) | skip)
  ·have q5 := hout 5 ob
   exact wp_mw _ rfl q5 (hK _ _ (hJ.plain (by rw [hls]; decide) hFst (by decide) (Ex.refl _) (by rw [hT]; rfl) nh))
  ·have q6 := hout 6 ob
   exact wp_mw _ rfl q6 (hK _ _ (hJ.plain (by rw [hls]; decide) hFst (by decide) (Ex.refl _) (by rw [hT]; rfl) nh))
  ·have q8 := hout 8 ob
   exact wp_mw _ rfl q8 (hK _ _ (hJ.plain (by rw [hls]; decide) hFst (by decide) (Ex.refl _) (by rw [hT]; rfl) nh))
  ·have hcut : listed.getD 8 false = false := by
    cases hc : listed.getD 8 false with
    | false => rfl
    | true =>
     have hc0 := hJ.ord (8, 3) (by simp) hc
     exact absurd hc0 (by rw [hun]; decide)
   have hpre := hJ.pre hcut
   clear hsz hdep hout hlat
   go_simp
   refine (tnew_any w3).mono ?_
   rintro e w4 ⟨D9, rfl, h1, h2, x4⟩
   exact hK _ _ (hJ.plain (by rw [hls]; decide) hFst (by decide) x4 (by rw [hT]; exact ⟨D9, rfl, Nat.le_trans hpre.sz' h1, h2⟩) nh)
  ·have q41 := hJ.iw hT (hdep ⟨2, .data⟩ (by simp) rfl) rfl rfl _ rfl _ rfl
   have dd42 := hdep ⟨3, .data⟩ (by simp) rfl
   have q42 := dd42.2 _ rfl _ rfl
   have hcut : listed.getD 8 false = false := by
    cases hc : listed.getD 8 false with
    | false => rfl
    | true =>
     have hc0 := hJ.ord (8, 4) (by simp) hc
     exact absurd hc0 (by rw [hun]; decide)
   have h42 := hJ.vals 3 dd42.1 (fun c hc => by have hc : some 8 = some c := hc; cases hc; exact hcut)
   rw [hT] at h42
   have h42 : (fun v9 w9 => ∃ D9, v9 = .pointer (some ⟨D9, 0, none⟩) ∧ wc.heap.size ≤ D9 ∧ TB w9 D9 (.slice none 0 0) []) (f 3) w3 := h42
   obtain ⟨D42, e42, l42, b42⟩ := h42
   rw [e42] at q42
   clear dd42
   refine wp_build _ _ rfl (partC ⟨rl, 1, 0⟩ (some D42)).toArray ?_ (hK _ _ (hJ.plain (by rw [hls]; decide) hFst (by decide) (Ex.refl _) (by rw [hT]; exact ⟨D42, rfl, l42, b42⟩) nh))
   simp only [List.map_cons, List.map_nil, show a.eval (.tmp 41) = _ from q41, show a.eval (.tmp 42) = _ from q42]
   exact built_part rl 1 D42
  ·have q39 := hJ.iv hT (hdep ⟨0, .data⟩ (by simp) rfl) rfl rfl _ rfl _ rfl
   clear hsz hdep hout hlat
   go_simp
   exact hK _ _ (hJ.plain (by rw [hls]; decide) hFst (by decide) (Ex.refl _) (by rw [hT]; first | rfl | exact congrArg (Value.int .i64) (by omega) | exact congrArg (Value.int .i64) (by rw [IntKind.wrap_i64]; omega)) nh)
  ·have q44 := hJ.iv hT (hdep ⟨5, .data⟩ (by simp) rfl) rfl rfl _ rfl _ rfl
   clear hsz hdep hout hlat
   go_simp
   exact hK _ _ (hJ.plain (by rw [hls]; decide) hFst (by decide) (Ex.refl _) (by rw [hT]; first | rfl | exact congrArg (Value.int .i64) (by omega) | exact congrArg (Value.int .i64) (by rw [IntKind.wrap_i64]; omega)) nh)
  ·have q45 := hJ.iv hT (hdep ⟨6, .data⟩ (by simp) rfl) rfl rfl _ rfl _ rfl
   have q40 := hJ.iv hT (hdep ⟨1, .data⟩ (by simp) rfl) rfl rfl _ rfl _ rfl
   clear hsz hdep hout hlat
   go_simp
   exact hK _ _ (hJ.plain (by rw [hls]; decide) hFst (by decide) (Ex.refl _) (by rw [hT]; first | rfl | exact congrArg (Value.int .i64) (by omega) | exact congrArg (Value.int .i64) (by rw [IntKind.wrap_i64]; omega)) nh)
  have q46 := hJ.iw hT (hdep ⟨7, .data⟩ (by simp) rfl) rfl rfl _ rfl _ rfl
  have dd43 := hdep ⟨4, .data⟩ (by simp) rfl
  have q43 := dd43.2 _ rfl _ rfl
  have h43 := hJ.vals 4 dd43.1 (fun c hc => by have hc : some 8 = some c := hc; cases hc; exact hun)
  rw [hT] at h43
  have h43 : (fun v9 w9 => ∃ D9, v9 = .agg (partC ⟨rl, 1, 0⟩ (some D9)).toArray ∧ wc.heap.size ≤ D9 ∧ TB w9 D9 (.slice none 0 0) []) (f 4) w3 := h43
  obtain ⟨D43, e43, l43, b43⟩ := h43
  rw [e43] at q43
  clear dd43
  have hl3 := (hdep ⟨3, .chain⟩ (by simp) rfl).1
  have hl4 := (hdep ⟨4, .data⟩ (by simp) rfl).1
  have hord : ∀ x ∈ ([(8, 3), (8, 4)] : List (Nat × Nat)), x.1 = 8 → listed.getD x.2 false = true := (by intro x hx he; simp only [List.mem_cons, List.not_mem_nil, or_false] at hx; rcases hx with rfl | rfl; all_goals first | (exact absurd he (by decide)) | assumption)
  have hcut := hun
  have hpre := hJ.pre hcut
  have hc1 : ∀ j, j ≠ 8 → ([true, true, true, false, false, true, true, true, true] : List Bool).getD j true = false → listed.getD j false = true → ∃ c, (([none, none, none, some 8, some 8, none, none, none, none] : List (Option Nat))).getD j none = some c ∧ (c = 8 ∨ listed.getD c false = true) := by
   intro j hj hfj hl
   have hm : j = 3 ∨ j = 4 := by
    rcases Nat.lt_or_ge j 9 with h | h
    ·have hk : j = 0 ∨ j = 1 ∨ j = 2 ∨ j = 3 ∨ j = 4 ∨ j = 5 ∨ j = 6 ∨ j = 7 ∨ j = 8 := by omega
     rcases hk with rfl | rfl | rfl | rfl | rfl | rfl | rfl | rfl | rfl <;> first | (exact absurd hfj (by decide)) | simp
    ·rw [List.getD_eq_getElem?_getD, List.getElem?_eq_none (by simpa using h)] at hfj; cases hfj
   rcases hm with rfl | rfl
   ·exact ⟨8, rfl, Or.inl rfl⟩
   ·exact ⟨8, rfl, Or.inl rfl⟩
  have hb := P.out.1.ext hpre
  refine wp_stp (C := stC m n (pk m n k) (dk D k)) (partC ⟨rl, 1, 0⟩ (some D43)) _ _ M (2 + k * 4) rfl q46 q43 hb (by rw [stC_len]; show 2 + k * 4 + 4 ≤ 66; omega) (by rw [Try.sizePart]; rfl) (part_ones _ _) (fun w5 hd ho => ?_)
  have kt : Kt [115] 0 w3 w5 := Kt.md ho.md (Nat.zero_le _) hb (List.mem_singleton.2 rfl)
  have hfin : ∃ D9, wc.heap.size ≤ D9 ∧ TB w5 D9 (.slice none 0 0) [] ∧ Bk w5 M 115 (stC m n (pk m n (k + 1)) (dk (updF D k D9) (k + 1))).toArray ∧ Bk w5 g 3 (homeC 16 n).toArray ∧ TS w5 w.heap.size k D r v ∧ Ex w w5 := ⟨D43, l43, b43.kts kt (by decide) (by decide) (by decide), by rw [← pk_next, ← dk_next, HP.out, ← stC_part m n _ _ _ _ hlt]; exact hd, kt.bk (HB.out.ext hpre) (by decide), (P.out.2.1.ext hpre).kts kt (by decide) (by decide) (by decide), ho.below w.heap.size (Nat.le_of_eq HM.out.symm) w (Ex.trans P.out.2.2.1 hpre)⟩
  exact hK _ _ (hJ.mod (by rw [hls]; decide) HFX (by rw [hT]; exact trivial) hc1 (Or.inl rfl) (fun _ => hfin) hord)
 intro listed f w3 hall hJ
 have xf : (fun w9 => ∃ D9, wc.heap.size ≤ D9 ∧ TB w9 D9 (.slice none 0 0) [] ∧ Bk w9 M 115 (stC m n (pk m n (k + 1)) (dk (updF D k D9) (k + 1))).toArray ∧ Bk w9 g 3 (homeC 16 n).toArray ∧ TS w9 w.heap.size k D r v ∧ Ex w w9) w3 := hJ.fin (hall 8 (by simp))
 simp only [putAll, Act.put, List.setIfInBounds_toArray, List.set_cons_zero, List.set_cons_succ, Nat.zero_add, Nat.reduceAdd]
 clear hJ hall hT HFX hFst
 obtain ⟨D9, h1, h2, h3, h4, h5, h6⟩ := xf
 have P2 : Hid (Bk w3 M 115 (stC m n (pk m n (k + 1)) (dk (updF D k D9) (k + 1))).toArray ∧ TS w3 w.heap.size (k + 1) (updF D k D9) (updF r k (.slice none 0 0)) (updF v k []) ∧ Ex w w3 ∧ ∀ i, i < k + 1 → updF v k [] i = []) := Hi ⟨h3, P.out.2.1.push h5 h1 (Nat.le_trans P.out.2.2.1.sz' h1) h2, h6, fun i hi => by
       by_cases e : i = k
       ·rw [e, updF_same]
       ·rw [updF_ne _ _ e]; exact P.out.2.2.2 i (by omega)⟩
 replace HB := Hi h4
 clear P h1 h2 h3 h4 h5 h6
 go_wp2_with fail
 (first | (refine ⟨?_, ?measure⟩; (repeat apply Exists.intro); refine ⟨?rel, rfl⟩) | refine ⟨?rel, ?measure⟩)
 case rel => exact ⟨k + 1, _, _, _, by omega, by go_num, HB, P2⟩
 case measure => simp [intOf]; omega
end Go.Proofs.Ytmjfnpmnhehnkaa
namespace Go.Proofs.Ytmjfnpmnhehnkaa
open Go.RowKit
structure Rk where
  kind : Int
  shard : Int
  tw : Int
  ep : Int
  v : Vt
  ad : Option Addr
  cap : Nat
  l : List Vt
def Rk.C (x : Rk) : List Value := [.int .i64 x.kind, .int .i64 x.shard, .int .i64 x.tw, .int .u64 x.ep] ++ x.v.C ++ [.slice x.ad x.l.length x.cap]
def Rk.V (x : Rk) : Value := .agg x.C.toArray
structure Rk.In (x : Rk) (w : World) : Prop where
  kind : i64 x.kind
  shard : i64 x.shard
  tw : i64 x.tw
  ep : 0 ≤ x.ep ∧ x.ep < 18446744073709551616
  v : VI w x.v
  inn : Vp.In x.ad x.cap x.l w
  cap : x.cap ≤ 9223372036854775807
  ins : ∀ (i : Nat) (y : Vt), x.l[i]? = some y → VI w y
theorem Rk.In.ext {x : Rk} {w w' : World} (h : x.In w) (k : Ex w w') : x.In w' := { h with v := h.v.ext k, inn := h.inn.ext k, ins := fun i y hy => (h.ins i y hy).ext k }
theorem Rk.len {x : Rk} (h : x.v.Ok) : x.C.length = 47 := by unfold Rk.C; rw [List.length_append, List.length_append, Vt.len h]; rfl
theorem Rk.v_at {x : Rk} : (x.C.drop 4).take x.v.C.length = x.v.C := by
  show (x.v.C ++ [Value.slice x.ad x.l.length x.cap]).take x.v.C.length = x.v.C
  rw [List.take_left']; rfl
theorem Rk.id_at {x : Rk} (h : x.v.Ok) : (x.C.drop 4).take (Lib.byteCells x.v.id).length = Lib.byteCells x.v.id := by
  show (x.v.C ++ [Value.slice x.ad x.l.length x.cap]).take (Lib.byteCells x.v.id).length = Lib.byteCells x.v.id
  unfold Vt.C
  simp only [List.append_assoc]
  rw [List.take_left']; rfl
theorem Rk.last_at {x : Rk} (h : x.v.Ok) : x.C[46]? = some (.slice x.ad x.l.length x.cap) := by
  show ([Value.int .i64 x.kind, .int .i64 x.shard, .int .i64 x.tw, .int .u64 x.ep] ++ x.v.C ++ [Value.slice x.ad x.l.length x.cap])[46]? = _
  rw [List.getElem?_append_right (by rw [List.length_append, Vt.len h]; exact Nat.le_refl 46), List.length_append, Vt.len h]; rfl
def KB9 (w : World) (g : Nat) (x : Rk) : Prop := x.v.Ok ∧ Bk w g 39 x.C.toArray
theorem KB9.ext {w w' : World} {g : Nat} {x : Rk} (h : KB9 w g x) (k : Ex w w') : KB9 w' g x := ⟨h.1, h.2.ext k⟩
theorem KB9.cells {w : World} {g : Nat} {x : Rk} (h : KB9 w g x) : w.cell? ⟨g, 0, none⟩ = some (.int .i64 x.kind) ∧ w.cell? ⟨g, 1, none⟩ = some (.int .i64 x.shard) ∧ w.cell? ⟨g, 2, none⟩ = some (.int .i64 x.tw) ∧ w.cell? ⟨g, 3, none⟩ = some (.int .u64 x.ep) ∧ w.cell? ⟨g, 46, none⟩ = some (.slice x.ad x.l.length x.cap) :=
  ⟨(h.2.cell 0).trans rfl, (h.2.cell 1).trans rfl, (h.2.cell 2).trans rfl, (h.2.cell 3).trans rfl, (h.2.cell 46).trans (by rw [List.getElem?_toArray]; exact Rk.last_at h.1)⟩
theorem Try.sizeRk : (Try.prog.info? 39).map (·.size) = some 47 := by kernel_rfl
section
variable {o : Oper} {a : Act} {w : World} {K : Act → World → Prop} {Q : Exit → Act → World → Prop}
theorem ld_rk (x : Operand) (g : Nat) (v : Rk) (ho : o.op = .load 39 x) (ha : a.eval x = .pointer (some ⟨g, 0, none⟩)) (h : KB9 w g v) (hk : K (a.put o.dst v.V) w) : o.wp Try.prog a w K Q := by
  obtain ⟨dd, hd⟩ : ∃ d, Try.prog.underlying 39 = some d ∧ d.isRow = true := ⟨_, Try.underlying39, rfl⟩
  exact wp_ldp (C := v.C) v.C x g 0 dd ho ha h.2 (by simp) hd.1 hd.2 (by rw [Try.sizeRk, Rk.len h.1]) hk
theorem ld_rkv (x : Operand) (g : Nat) (v : Rk) (ho : o.op = .load 36 x) (ha : a.eval x = .pointer (some ⟨g, 4, none⟩)) (h : KB9 w g v) (hk : K (a.put o.dst v.v.V) w) : o.wp Try.prog a w K Q := by
  obtain ⟨dd, hd⟩ : ∃ d, Try.prog.underlying 36 = some d ∧ d.isRow = true := ⟨_, Try.underlying36, rfl⟩
  exact wp_ldp (C := v.C) v.v.C x g 4 dd ho ha h.2 Rk.v_at hd.1 hd.2 (by rw [Try.sizeVt, Vt.len h.1]) hk
theorem ld_rkid (x : Operand) (g : Nat) (v : Rk) (ho : o.op = .load 32 x) (ha : a.eval x = .pointer (some ⟨g, 4, none⟩)) (h : KB9 w g v) (hk : K (a.put o.dst (digV v.v.id)) w) : o.wp Try.prog a w K Q := by
  obtain ⟨dd, hd⟩ : ∃ d, Try.prog.underlying 32 = some d ∧ d.isRow = true := ⟨_, Try.underlying32, rfl⟩
  exact wp_ldp (C := v.C) (Lib.byteCells v.v.id) x g 4 dd ho ha h.2 (Rk.id_at h.1) hd.1 hd.2 (by rw [Try.sizeId, byteCells_len, h.1.idN]) hk
end
def BPost (P : Prop) (w : World) (e : Ending) (w' : World) : Prop := ∃ b : Bool, e = .returned (.bool b) ∧ (b = true ↔ P) ∧ Ex w w'
def Rk.step (x : Rk) : Prop := 0 ≤ x.shard ∧ x.shard < 16 ∧ 1 ≤ x.ep ∧ x.ep ≤ 1099511627776 ∧ x.v.ct = zeroVc
def Rk.keepR (x : Rk) : Prop := x.v.ct.right = true ∧ x.shard = 0 ∧ x.tw = 0 ∧ x.ep = 0 ∧ x.l.length = 0
def Rk.outR (x : Rk) : Prop := x.step ∧ 0 ≤ x.tw ∧ x.tw < 8 ∧ x.l.length = 0
def Rk.doneR (x : Rk) : Prop := x.step ∧ x.tw = 0 ∧ x.l.length = 0
theorem rstep_any (x : Rk) (w : World) (hx : x.In w) : Calls Try.prog 123 #[x.V] w (BPost x.step w) := by
  skip
  obtain ⟨cs, hcs⟩ : ∃ cs, cs = x.C.toArray := ⟨_, rfl⟩
  have A0 : Hid (KB9 (w.alloc (.cells cs 39)) w.heap.size x) := Hi ⟨hx.v.ok, by rw [hcs]; exact Bk.new rfl _ _⟩
  have B0 : Hid (Ex w (w.alloc (.cells cs 39))) := Hi (Ex.alloc _ _)
  rw [show (Calls Try.prog 123 #[x.V] w) = (Calls Try.prog 123 #[.agg cs] w) by rw [hcs]; rfl]
  have HX := Hi hx
  clear hcs hx
  obtain ⟨c0, c1, c2, c3, c46⟩ := A0.out.cells
  go_enter Try.func123, Try.ntmps123
  by_cases h0 : 0 ≤ x.shard
  rotate_left
  · skip
    go_wp2_with fail
    go_ret
    exact ⟨false, rfl, ⟨(fun h => by cases h), fun h => absurd h.1 (by omega)⟩, B0.out⟩
  by_cases h1 : x.shard < 16
  rotate_left
  · skip
    go_wp2_with fail
    go_ret
    exact ⟨false, rfl, ⟨(fun h => by cases h), fun h => absurd h.2.1 (by omega)⟩, B0.out⟩
  by_cases h2 : 1 ≤ x.ep
  rotate_left
  · skip
    go_wp2_with fail
    go_ret
    exact ⟨false, rfl, ⟨(fun h => by cases h), fun h => absurd h.2.2.1 (by omega)⟩, B0.out⟩
  by_cases h3 : x.ep ≤ 1099511627776
  · go_wp2_with (first | ((with_reducible refine so0 ?_ ?_); (focus rfl)) | ((with_reducible refine so4 [39, 36] ?_ ?_); (focus rfl)))
    (with_reducible refine ⟨?_⟩)
    change wpList _ _ _ _ _ (w.alloc (.cells cs 39))
    generalize hw1 : w.alloc (.cells cs 39) = w1 at *
    clear hw1
    obtain ⟨B, hB⟩ : ∃ B, B = w.heap.size := ⟨_, rfl⟩
    rw [← hB] at A0 c0 c1 c2 c3 c46 ⊢
    have HB := Hi hB
    clear hB
    (with_reducible refine at_any ?_ ?_); (focus go_simp); refine fun K0 hK => ld_rkv _ B x rfl rfl A0.out (hK _ _ ?_)
    clear hK
    go_wp2_with (first | ((with_reducible refine so0 ?_ ?_); (focus rfl)) | ((with_reducible refine so4 [39, 36] ?_ ?_); (focus rfl)))
    refine at9 (by go_simp) fun K0 hK => wp_build _ _ rfl _ built_zero (hK _ _ ?_)
    clear hK
    go_wp2_with fail
    refine (vsame_any x.v zeroVt w1 (HX.out.v.ext B0.out) ⟨zeroVt_ok, nilB_in _ _⟩).mono ?_
    rintro e w2 ⟨rfl, x2⟩
    replace B0 := Hi (Ex.trans B0.out x2)
    clear x2
    go_wp2_with fail
    go_ret
    exact ⟨decide (x.v.ct = zeroVt.ct), rfl, ⟨fun h => ⟨h0, h1, h2, h3, of_decide_eq_true h⟩, fun h => decide_eq_true h.2.2.2.2⟩, B0.out⟩
  skip
  go_wp2_with fail
  go_ret
  exact ⟨false, rfl, ⟨(fun h => by cases h), fun h => absurd h.2.2.2.1 (by omega)⟩, B0.out⟩
theorem rrec_keep (x : Rk) (hk : x.kind = 1) (w : World) (hx : x.In w) : Calls Try.prog 91 #[x.V] w (BPost x.keepR w) := by
  obtain ⟨cs, hcs⟩ : ∃ cs, cs = x.C.toArray := ⟨_, rfl⟩
  have A0 : Hid (KB9 (w.alloc (.cells cs 39)) w.heap.size x) := Hi ⟨hx.v.ok, by rw [hcs]; exact Bk.new rfl _ _⟩
  have B0 : Hid (Ex w (w.alloc (.cells cs 39))) := Hi (Ex.alloc _ _)
  rw [show (Calls Try.prog 91 #[x.V] w) = (Calls Try.prog 91 #[.agg cs] w) by rw [hcs]; rfl]
  have HX := Hi hx
  clear hcs hx
  obtain ⟨c0, c1, c2, c3, c46⟩ := A0.out.cells
  rw [hk] at c0
  have HK := Hi hk
  clear hk
  go_enter Try.func91, Try.ntmps91
  go_wp2_with (first | ((with_reducible refine so0 ?_ ?_); (focus rfl)) | ((with_reducible refine so4 [39, 36] ?_ ?_); (focus rfl)))
  (with_reducible refine ⟨?_⟩)
  change wpList _ _ _ _ _ (w.alloc (.cells cs 39))
  generalize hw1 : w.alloc (.cells cs 39) = w1 at *
  clear hw1
  obtain ⟨B, hB⟩ : ∃ B, B = w.heap.size := ⟨_, rfl⟩
  rw [← hB] at A0 c0 c1 c2 c3 c46 ⊢
  have HB := Hi hB
  clear hB
  (with_reducible refine at_any ?_ ?_); (focus go_simp); refine fun K0 hK => ld_rkv _ B x rfl rfl A0.out (hK _ _ ?_)
  clear hK
  go_wp2_with fail
  have HR : Hid (∃ b, b = x.v.ct.right) := Hi ⟨_, rfl⟩
  obtain ⟨b, hb⟩ := HR.out
  refine (vright_any x.v w1 (HX.out.v.ext B0.out)).mono ?_
  rintro e w2 ⟨rfl, x2⟩
  rw [← hb]
  have HBR := Hi hb
  replace A0 := Hi (A0.out.ext x2)
  replace B0 := Hi (Ex.trans B0.out x2)
  clear hb x2 HR c0 c1 c2 c3 c46
  obtain ⟨c0, c1, c2, c3, c46⟩ := A0.out.cells
  obtain ⟨n, hn⟩ : ∃ n, n = x.l.length := ⟨_, rfl⟩
  rw [← hn] at c46
  have HN := Hi hn
  clear hn
  cases b
  · skip
    go_wp2_with fail
    go_ret
    exact ⟨false, rfl, ⟨(fun h => by cases h), fun h => absurd (HBR.out.trans h.1) (by decide)⟩, B0.out⟩
  skip
  by_cases h0 : x.shard = 0
  · by_cases h1 : x.tw = 0
    · by_cases h2 : x.ep = 0
      · by_cases h3 : (n : Int) = 0
        · go_wp2_with fail
          go_ret
          exact ⟨true, rfl, ⟨fun _ => ⟨HBR.out.symm, h0, h1, h2, HN.out.symm.trans (by omega)⟩, fun _ => rfl⟩, B0.out⟩
        skip
        go_wp2_with fail
        go_ret
        exact ⟨_, rfl, ⟨(fun h => absurd (eq_of_beq h) h3), fun h => absurd (HN.out.trans h.2.2.2.2) (by omega)⟩, B0.out⟩
      skip
      go_wp2_with fail
      go_ret
      exact ⟨false, rfl, ⟨(fun h => by cases h), fun h => absurd h.2.2.2.1 (by omega)⟩, B0.out⟩
    skip
    go_wp2_with fail
    go_ret
    exact ⟨false, rfl, ⟨(fun h => by cases h), fun h => absurd h.2.2.1 (by omega)⟩, B0.out⟩
  skip
  go_wp2_with fail
  go_ret
  exact ⟨false, rfl, ⟨(fun h => by cases h), fun h => absurd h.2.1 (by omega)⟩, B0.out⟩
theorem rrec_out (x : Rk) (hk : x.kind = 2) (w : World) (hx : x.In w) : Calls Try.prog 91 #[x.V] w (BPost x.outR w) := by
  obtain ⟨cs, hcs⟩ : ∃ cs, cs = x.C.toArray := ⟨_, rfl⟩
  have A0 : Hid (KB9 (w.alloc (.cells cs 39)) w.heap.size x) := Hi ⟨hx.v.ok, by rw [hcs]; exact Bk.new rfl _ _⟩
  have B0 : Hid (Ex w (w.alloc (.cells cs 39))) := Hi (Ex.alloc _ _)
  rw [show (Calls Try.prog 91 #[x.V] w) = (Calls Try.prog 91 #[.agg cs] w) by rw [hcs]; rfl]
  have HX := Hi hx
  clear hcs hx
  obtain ⟨c0, c1, c2, c3, c46⟩ := A0.out.cells
  rw [hk] at c0
  have HK := Hi hk
  clear hk
  go_enter Try.func91, Try.ntmps91
  go_wp2_with (first | ((with_reducible refine so0 ?_ ?_); (focus rfl)) | ((with_reducible refine so4 [39, 36] ?_ ?_); (focus rfl)))
  (with_reducible refine ⟨?_⟩)
  change wpList _ _ _ _ _ (w.alloc (.cells cs 39))
  generalize hw1 : w.alloc (.cells cs 39) = w1 at *
  clear hw1
  obtain ⟨B, hB⟩ : ∃ B, B = w.heap.size := ⟨_, rfl⟩
  rw [← hB] at A0 c0 c1 c2 c3 c46 ⊢
  have HB := Hi hB
  clear hB
  (with_reducible refine at_any ?_ ?_); (focus go_simp); refine fun K0 hK => ld_rk _ B x rfl rfl A0.out (hK _ _ ?_)
  clear hK
  go_wp2_with fail
  refine (rstep_any x w1 (HX.out.ext B0.out)).mono ?_
  rintro e w2 ⟨b, rfl, hb, x2⟩
  have HBR := Hi hb
  replace A0 := Hi (A0.out.ext x2)
  replace B0 := Hi (Ex.trans B0.out x2)
  clear hb x2 c0 c1 c2 c3 c46
  obtain ⟨c0, c1, c2, c3, c46⟩ := A0.out.cells
  obtain ⟨n, hn⟩ : ∃ n, n = x.l.length := ⟨_, rfl⟩
  rw [← hn] at c46
  have HN := Hi hn
  clear hn
  cases b
  · skip
    go_wp2_with fail
    go_ret
    exact ⟨false, rfl, ⟨(fun h => by cases h), fun h => absurd (HBR.out.2 h.1) (by simp)⟩, B0.out⟩
  skip
  by_cases h0 : 0 ≤ x.tw
  · by_cases h1 : x.tw < 8
    · by_cases h2 : (n : Int) = 0
      · go_wp2_with fail
        go_ret
        exact ⟨true, rfl, ⟨fun _ => ⟨HBR.out.1 trivial, h0, h1, HN.out.symm.trans (by omega)⟩, fun _ => rfl⟩, B0.out⟩
      skip
      go_wp2_with fail
      go_ret
      exact ⟨_, rfl, ⟨(fun h => absurd (eq_of_beq h) h2), fun h => absurd (HN.out.trans h.2.2.2) (by omega)⟩, B0.out⟩
    skip
    go_wp2_with fail
    go_ret
    exact ⟨false, rfl, ⟨(fun h => by cases h), fun h => absurd h.2.2.1 (by omega)⟩, B0.out⟩
  skip
  go_wp2_with fail
  go_ret
  exact ⟨false, rfl, ⟨(fun h => by cases h), fun h => absurd h.2.1 (by omega)⟩, B0.out⟩
theorem rrec_done (x : Rk) (hk : x.kind = 4) (w : World) (hx : x.In w) : Calls Try.prog 91 #[x.V] w (BPost x.doneR w) := by
  obtain ⟨cs, hcs⟩ : ∃ cs, cs = x.C.toArray := ⟨_, rfl⟩
  have A0 : Hid (KB9 (w.alloc (.cells cs 39)) w.heap.size x) := Hi ⟨hx.v.ok, by rw [hcs]; exact Bk.new rfl _ _⟩
  have B0 : Hid (Ex w (w.alloc (.cells cs 39))) := Hi (Ex.alloc _ _)
  rw [show (Calls Try.prog 91 #[x.V] w) = (Calls Try.prog 91 #[.agg cs] w) by rw [hcs]; rfl]
  have HX := Hi hx
  clear hcs hx
  obtain ⟨c0, c1, c2, c3, c46⟩ := A0.out.cells
  rw [hk] at c0
  have HK := Hi hk
  clear hk
  go_enter Try.func91, Try.ntmps91
  go_wp2_with (first | ((with_reducible refine so0 ?_ ?_); (focus rfl)) | ((with_reducible refine so4 [39, 36] ?_ ?_); (focus rfl)))
  (with_reducible refine ⟨?_⟩)
  change wpList _ _ _ _ _ (w.alloc (.cells cs 39))
  generalize hw1 : w.alloc (.cells cs 39) = w1 at *
  clear hw1
  obtain ⟨B, hB⟩ : ∃ B, B = w.heap.size := ⟨_, rfl⟩
  rw [← hB] at A0 c0 c1 c2 c3 c46 ⊢
  have HB := Hi hB
  clear hB
  (with_reducible refine at_any ?_ ?_); (focus go_simp); refine fun K0 hK => ld_rk _ B x rfl rfl A0.out (hK _ _ ?_)
  clear hK
  go_wp2_with fail
  refine (rstep_any x w1 (HX.out.ext B0.out)).mono ?_
  rintro e w2 ⟨b, rfl, hb, x2⟩
  have HBR := Hi hb
  replace A0 := Hi (A0.out.ext x2)
  replace B0 := Hi (Ex.trans B0.out x2)
  clear hb x2 c0 c1 c2 c3 c46
  obtain ⟨c0, c1, c2, c3, c46⟩ := A0.out.cells
  obtain ⟨n, hn⟩ : ∃ n, n = x.l.length := ⟨_, rfl⟩
  rw [← hn] at c46
  have HN := Hi hn
  clear hn
  cases b
  · skip
    go_wp2_with fail
    go_ret
    exact ⟨false, rfl, ⟨(fun h => by cases h), fun h => absurd (HBR.out.2 h.1) (by simp)⟩, B0.out⟩
  skip
  by_cases h0 : x.tw = 0
  · by_cases h1 : (n : Int) = 0
    · go_wp2_with fail
      go_ret
      exact ⟨true, rfl, ⟨fun _ => ⟨HBR.out.1 trivial, h0, HN.out.symm.trans (by omega)⟩, fun _ => rfl⟩, B0.out⟩
    skip
    go_wp2_with fail
    go_ret
    exact ⟨_, rfl, ⟨(fun h => absurd (eq_of_beq h) h1), fun h => absurd (HN.out.trans h.2.2) (by omega)⟩, B0.out⟩
  skip
  go_wp2_with fail
  go_ret
  exact ⟨false, rfl, ⟨(fun h => by cases h), fun h => absurd h.2.1 (by omega)⟩, B0.out⟩
theorem rrec_none (x : Rk) (hk : ¬ (x.kind = 1 ∨ x.kind = 2 ∨ x.kind = 3 ∨ x.kind = 4)) (w : World) (hx : x.In w) : Calls Try.prog 91 #[x.V] w fun e w' => e = .returned (.bool false) ∧ Ex w w' := by
  obtain ⟨cs, hcs⟩ : ∃ cs, cs = x.C.toArray := ⟨_, rfl⟩
  have A0 : Hid (KB9 (w.alloc (.cells cs 39)) w.heap.size x) := Hi ⟨hx.v.ok, by rw [hcs]; exact Bk.new rfl _ _⟩
  have B0 : Hid (Ex w (w.alloc (.cells cs 39))) := Hi (Ex.alloc _ _)
  rw [show (Calls Try.prog 91 #[x.V] w) = (Calls Try.prog 91 #[.agg cs] w) by rw [hcs]; rfl]
  have HX := Hi hx
  clear hcs hx
  obtain ⟨c0, c1, c2, c3, c46⟩ := A0.out.cells
  have k1 : ¬ x.kind = 1 := fun h => hk (Or.inl h)
  have k2 : ¬ x.kind = 2 := fun h => hk (Or.inr (Or.inl h))
  have k3 : ¬ x.kind = 3 := fun h => hk (Or.inr (Or.inr (Or.inl h)))
  have k4 : ¬ x.kind = 4 := fun h => hk (Or.inr (Or.inr (Or.inr h)))
  clear hk
  go_enter Try.func91, Try.ntmps91
  go_wp2_with fail
  go_ret
  exact ⟨rfl, B0.out⟩
end Go.Proofs.Ytmjfnpmnhehnkaa
