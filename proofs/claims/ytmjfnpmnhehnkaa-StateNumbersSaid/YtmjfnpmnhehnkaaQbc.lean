/- Ra, Rb -/
import Derived.Test.YtmjfnpmnhehnkaaQbb
set_option maxRecDepth 100000
set_option maxHeartbeats 16000000
namespace Go.Proofs.Ytmjfnpmnhehnkaa
open Go.RowKit
def partR (p : Pa) (d : Value) : List Value := [.int .i64 p.role, .int .u64 p.ep, .int .i64 p.tw, d]
def srC (m n : Int) (p : Nat → Pa) (D : Nat → Value) : List Value := [.int .i64 m, .int .i64 n] ++ (List.range 16).flatMap fun i => partR (p i) (D i)
theorem srC_len (m n : Int) (p : Nat → Pa) (D : Nat → Value) : (srC m n p D).length = 66 := rfl
theorem range_partR (p : Nat → Pa) (D : Nat → Value) : ∀ (N i j : Nat), i < N → j < 4 → ((List.range N).flatMap fun i => partR (p i) (D i))[i * 4 + j]? = (partR (p i) (D i))[j]?
  | 0, i, j, h, _ => absurd h (Nat.not_lt_zero i)
  | N + 1, i, j, h, hj => by
    have hl : ∀ N, ((List.range N).flatMap fun i => partR (p i) (D i)).length = N * 4 := fun N => by
      induction N with
      | zero => rfl
      | succ N ih => rw [List.range_succ, List.flatMap_append, List.length_append, ih]; simp [partR]; omega
    rw [List.range_succ, List.flatMap_append]
    rcases Nat.lt_or_ge i N with h1 | h1
    · rw [List.getElem?_append_left (by rw [hl]; omega)]
      exact range_partR p D N i j h1 hj
    · obtain rfl : i = N := by omega
      rw [List.getElem?_append_right (by rw [hl]; omega), hl, Nat.add_sub_cancel_left]
      simp
theorem srC_at (m n : Int) (p : Nat → Pa) (D : Nat → Value) {i j : Nat} (hi : i < 16) (hj : j < 4) : (srC m n p D)[2 + i * 4 + j]? = (partR (p i) (D i))[j]? := by
  unfold srC
  rw [List.getElem?_append_right (by simp; omega), show 2 + i * 4 + j - [Value.int .i64 m, Value.int .i64 n].length = i * 4 + j by simp; omega]
  exact range_partR p D 16 i j hi hj
theorem srC_ext {m n : Int} {p : Nat → Pa} {D : Nat → Value} {L : List Value} (hl : L.length = 66) (h0 : L[0]? = some (.int .i64 m)) (h1 : L[1]? = some (.int .i64 n)) (h : ∀ i j, i < 16 → j < 4 → L[2 + i * 4 + j]? = (partR (p i) (D i))[j]?) : L = srC m n p D := by
  apply List.ext_getElem?
  intro k
  rcases (show k = 0 ∨ k = 1 ∨ 66 ≤ k ∨ ∃ i j, i < 16 ∧ j < 4 ∧ k = 2 + i * 4 + j by
    rcases Nat.lt_or_ge k 2 with h | h
    · omega
    · rcases Nat.lt_or_ge k 66 with h2 | h2
      · exact Or.inr (Or.inr (Or.inr ⟨(k - 2) / 4, (k - 2) % 4, by omega, by omega, by omega⟩))
      · omega) with rfl | rfl | hk | ⟨i, j, hi, hj, rfl⟩
  · exact h0
  · exact h1
  · rw [List.getElem?_eq_none (by omega), List.getElem?_eq_none (by rw [srC_len]; omega)]
  rw [h i j hi hj, srC_at m n p D hi hj]
theorem srC_part (m n : Int) (p : Nat → Pa) (D : Nat → Value) (q : Pa) (d : Value) {i : Nat} (hi : i < 16) : (srC m n p D).take (2 + i * 4) ++ partR q d ++ (srC m n p D).drop (2 + i * 4 + (partR q d).length) = srC m n (updF p i q) (updF D i d) := by
  have hq : (partR q d).length = 4 := rfl
  have hA : ((srC m n p D).take (2 + i * 4) ++ partR q d).length = 2 + i * 4 + 4 := by rw [List.length_append, List.length_take, srC_len, hq]; omega
  have ht : ((srC m n p D).take (2 + i * 4)).length = 2 + i * 4 := by rw [List.length_take, srC_len]; omega
  refine srC_ext ?_ ?_ ?_ ?_
  · rw [List.length_append, hA, List.length_drop, srC_len, hq]; omega
  · rw [List.append_assoc, List.getElem?_append_left (by rw [ht]; omega), List.getElem?_take, if_pos (by omega)]; rfl
  · rw [List.append_assoc, List.getElem?_append_left (by rw [ht]; omega), List.getElem?_take, if_pos (by omega)]; rfl
  intro a j ha hj
  rcases Nat.lt_trichotomy a i with h | rfl | h
  · rw [List.append_assoc, List.getElem?_append_left (by rw [ht]; omega), List.getElem?_take, if_pos (by omega), srC_at m n p D ha hj, updF_ne _ _ (by omega), updF_ne _ _ (by omega)]
  · rw [List.getElem?_append_left (by rw [hA]; omega), List.getElem?_append_right (by rw [ht]; omega), ht, Nat.add_sub_cancel_left, updF_same, updF_same]
  rw [List.getElem?_append_right (by rw [hA]; omega), hA, List.getElem?_drop, hq, show 2 + i * 4 + 4 + (2 + a * 4 + j - (2 + i * 4 + 4)) = 2 + a * 4 + j by omega, srC_at m n p D ha hj, updF_ne _ _ (by omega), updF_ne _ _ (by omega)]
theorem srC_set (m n : Int) (p : Nat → Pa) (D : Nat → Value) (q : Pa) (d : Value) {i j : Nat} (v : Value) (hi : i < 16) (hj : j < 4) (hq : (partR (p i) (D i)).set j v = partR q d) : (srC m n p D).set (2 + i * 4 + j) v = srC m n (updF p i q) (updF D i d) := by
  refine srC_ext (by rw [List.length_set, srC_len]) ?_ ?_ ?_
  · rw [List.getElem?_set_ne (by omega)]; rfl
  · rw [List.getElem?_set_ne (by omega)]; rfl
  intro a b ha hb
  by_cases e : a = i
  · subst e
    rw [updF_same, updF_same, ← hq]
    by_cases e2 : b = j
    · subst e2
      rw [List.getElem?_set_self (by rw [srC_len]; omega), List.getElem?_set_self (by show b < 4; omega)]
    rw [List.getElem?_set_ne (by omega), List.getElem?_set_ne (fun e => e2 e.symm), srC_at m n p D ha hb]
  rw [List.getElem?_set_ne (by omega), srC_at m n p D ha hb, updF_ne _ _ e, updF_ne _ _ e]
theorem srC_set0 (m n : Int) (p : Nat → Pa) (D : Nat → Value) (q : Pa) {i j : Nat} (v : Value) (hi : i < 16) (hj : j < 4) (hq : (partR (p i) (D i)).set j v = partR q (D i)) : (srC m n p D).set (2 + i * 4 + j) v = srC m n (updF p i q) D := by
  rw [srC_set m n p D q (D i) v hi hj hq, updF_id]
structure RW (w0 w : World) (rv : Value) (xs : List Vt) : Prop where
  row : w.ownsRow w0.heap.size 36 42 rv xs.length (xs.flatMap Vt.C)
  ins : ∀ (i : Nat) (x : Vt), xs[i]? = some x → PX w0 w x
theorem RW.nil (w0 w : World) : RW w0 w (.slice none 0 0) [] := ⟨World.ownsRow_nil _ _ _ _, fun i x hx => by simp at hx⟩
theorem RW.ext {w0 w w' : World} {rv : Value} {xs : List Vt} (h : RW w0 w rv xs) (hs : w0.heap.size ≤ w.heap.size) (k : Ex w w') : RW w0 w' rv xs := ⟨k.row h.row, fun i x hx => ⟨(h.ins i x hx).ok, (h.ins i x hx).sec.ext hs k, (h.ins i x hx).len⟩⟩
theorem RW.kt {S : List Nat} {w0 w w' : World} {rv : Value} {xs : List Vt} (h : RW w0 w rv xs) (k : Kt S w0.heap.size w w') (h1 : 36 ∉ S) (h2 : 5 ∉ S) : RW w0 w' rv xs := ⟨k.row h.row h1, fun i x hx => ⟨(h.ins i x hx).ok, (h.ins i x hx).sec.kt k h2, (h.ins i x hx).len⟩⟩
theorem RW.inn {w0 w : World} {rv : Value} {xs : List Vt} (h : RW w0 w rv xs) : ∃ ad cap, rv = .slice ad xs.length cap ∧ Vp.In ad cap xs w ∧ cap ≤ 9223372036854775807 := by
  have hok : ∀ (i : Nat) (x : Vt), xs[i]? = some x → x.Ok := fun i x hx => (h.ins i x hx).ok
  obtain ⟨ad2, cap2, e2, _, _, hc9, _⟩ := own_rd h.row
  obtain ⟨⟨h1, ⟨hv, h0⟩ | ⟨g, cap, cur, rfl, hb, hh, hc, hm, hs, ht⟩⟩, _⟩ := h
  · exact ⟨none, 0, by rw [h0]; exact hv, ⟨by rw [h0]; exact Nat.le_refl 0, fun _ => rfl, hok, fun h => by omega⟩, by decide⟩
  have hc9 : cap ≤ 9223372036854775807 := by cases e2; exact hc9
  refine ⟨some ⟨g, 0, none⟩, cap, rfl, ⟨hc, (fun h => by cases h), hok, fun _ => ⟨g, 0, rfl, (show Bk w g 36 cur from hh).lt, fun i x hx j u hu => ?_⟩⟩, hc9⟩
  have hil : i < xs.length := (List.getElem?_eq_some_iff.1 hx).1
  have hj : j < 42 := by have := (List.getElem?_eq_some_iff.1 hu).1; rw [Vt.len (hok i x hx)] at this; exact this
  have h3 := vflat_at xs hok i j x hx hj
  rw [← ht, hu, List.getElem?_take, if_pos (by omega)] at h3
  rw [(show Bk w g 36 cur from hh).cell, Nat.zero_add, ← Array.getElem?_toList]
  exact h3
theorem RW.vi {w0 w : World} {rv : Value} {xs : List Vt} (h : RW w0 w rv xs) (hs : w0.heap.size ≤ w.heap.size) (i : Nat) (x : Vt) (hx : xs[i]? = some x) : VI w x := ⟨(h.ins i x hx).ok, (h.ins i x hx).sec.inn hs⟩
structure RS (w0 w : World) (M : Nat) (m n : Int) (p : Nat → Pa) (R : Nat → Value) (xs : Nat → List Vt) : Prop where
  blk : Bk w M 124 (srC m n p R).toArray
  rw : ∀ i, i < 16 → RW w0 w (R i) (xs i)
  ok : ∀ i, i < 16 → (p i).Ok
  mok : i64 m ∧ i64 n
  lo : w0.heap.size ≤ M
  sz : w0.heap.size ≤ w.heap.size
section
variable {w0 w w' : World} {M : Nat} {m n : Int} {p : Nat → Pa} {R : Nat → Value} {xs : Nat → List Vt}
theorem RS.ext (h : RS w0 w M m n p R xs) (k : Ex w w') : RS w0 w' M m n p R xs := ⟨h.blk.ext k, fun i hi => (h.rw i hi).ext h.sz k, h.ok, h.mok, h.lo, Nat.le_trans h.sz (Below.size k)⟩
theorem RS.cells (h : RS w0 w M m n p R xs) {i : Nat} (hi : i < 16) : w.cell? ⟨M, 2 + i * 4, none⟩ = some (.int .i64 (p i).role) ∧ w.cell? ⟨M, 2 + i * 4 + 1, none⟩ = some (.int .u64 (p i).ep) ∧ w.cell? ⟨M, 2 + i * 4 + 2, none⟩ = some (.int .i64 (p i).tw) ∧ w.cell? ⟨M, 2 + i * 4 + 3, none⟩ = some (R i) :=
  ⟨(h.blk.cell _).trans (by rw [List.getElem?_toArray]; exact srC_at m n p _ hi (show 0 < 4 by decide)), (h.blk.cell _).trans (by rw [List.getElem?_toArray]; exact srC_at m n p _ hi (show 1 < 4 by decide)), (h.blk.cell _).trans (by rw [List.getElem?_toArray]; exact srC_at m n p _ hi (show 2 < 4 by decide)), (h.blk.cell _).trans (by rw [List.getElem?_toArray]; exact srC_at m n p _ hi (show 3 < 4 by decide))⟩
theorem RS.heads (h : RS w0 w M m n p R xs) : w.cell? ⟨M, 0, none⟩ = some (.int .i64 m) ∧ w.cell? ⟨M, 1, none⟩ = some (.int .i64 n) := ⟨(h.blk.cell _).trans rfl, (h.blk.cell _).trans rfl⟩
theorem RS.own (h : RS w0 w M m n p R xs) {p' : Nat → Pa} {R' : Nat → Value} {xs' : Nat → List Vt} (k : Kt [124] w0.heap.size w w') (hb : Bk w' M 124 (srC m n p' R').toArray) (hr : ∀ i, i < 16 → (R' i = R i ∧ xs' i = xs i) ∨ RW w0 w' (R' i) (xs' i)) (ho : ∀ i, i < 16 → (p' i).Ok) : RS w0 w' M m n p' R' xs' :=
  ⟨hb, fun i hi => by
    rcases hr i hi with ⟨e1, e2⟩ | e
    · rw [e1, e2]; exact (h.rw i hi).kt k (by decide) (by decide)
    · exact e, ho, h.mok, h.lo, Nat.le_trans h.sz k.size⟩
end
theorem built_sr (m n : Int) : Try.prog.built 124 [(0, .int .i64 m), (1, .int .i64 n)] = some (srC m n (pk m n 0) (fun _ => .slice none 0 0)).toArray := by kernel_rfl
def RNewPost (m n : Int) (w : World) (e : Ending) (w' : World) : Prop := ∃ M : Nat, e = .returned (.pointer (some ⟨M, 0, none⟩)) ∧ RS w w' M m n (newP m n) (fun _ => .slice none 0 0) (fun _ => []) ∧ Ex w w'
theorem rnew_bad (m n : Int) (w : World) (h : ¬ (1 ≤ n ∧ n ≤ 8 ∧ 0 ≤ m ∧ m < n)) : Calls Try.prog 21 #[.int .i64 m, .int .i64 n] w fun e w' => e = .returned (.pointer none) ∧ w = w' := by
  by_cases h1 : n < 1
  · go_enter Try.func21, Try.ntmps21
    go_wp2_with fail
    go_ret
    exact ⟨rfl, rfl⟩
  by_cases h2 : 8 < n
  · go_enter Try.func21, Try.ntmps21
    go_wp2_with fail
    go_ret
    exact ⟨rfl, rfl⟩
  by_cases h3 : m < 0
  · go_enter Try.func21, Try.ntmps21
    go_wp2_with fail
    go_ret
    exact ⟨rfl, rfl⟩
  have h4 : n ≤ m := by omega
  go_enter Try.func21, Try.ntmps21
  go_wp2_with fail
  go_ret
  exact ⟨rfl, rfl⟩
theorem srC_congr {m n : Int} {p q : Nat → Pa} {D E : Nat → Value} (hp : ∀ i, i < 16 → p i = q i) (hd : ∀ i, i < 16 → D i = E i) : srC m n p D = srC m n q E :=
  srC_ext (srC_len _ _ _ _) rfl rfl (fun i j hi hj => by rw [srC_at m n p D hi hj, hp i hi, hd i hi])
theorem rnew_any (m n : Int) (w : World) (hg : 1 ≤ n ∧ n ≤ 8 ∧ 0 ≤ m ∧ m < n) : Calls Try.prog 21 #[.int .i64 m, .int .i64 n] w (RNewPost m n w) := by
  obtain ⟨g1, g2, g3, g4⟩ := hg
  have h1 : ¬ n < 1 := by omega
  have h2 : ¬ 8 < n := by omega
  have h3 : ¬ m < 0 := by omega
  have h4 : ¬ n ≤ m := by omega
  go_enter Try.func21, Try.ntmps21
  go_wp2_with (first | ((with_reducible refine so0 ?_ ?_); (focus rfl)) | ((with_reducible refine so4 [1000 + 3, 1000 + 24] ?_ ?_); (focus rfl)))
  refine at9 (by go_simp) fun K0 hK => wp_build _ _ rfl _ (built_sr m n) (hK _ _ ?_)
  clear hK
  go_wp2_with fail
  have B0 : Hid (Bk (w.alloc (.cells (srC m n (pk m n 0) (fun _ => Value.slice none 0 0)).toArray 124)) w.heap.size 124 (srC m n (pk m n 0) (fun _ => Value.slice none 0 0)).toArray) := Hi (Bk.new rfl _ _)
  have X0 : Hid (Ex w (w.alloc (.cells (srC m n (pk m n 0) (fun _ => Value.slice none 0 0)).toArray 124))) := Hi (Ex.alloc w _)
  obtain ⟨M, hM⟩ : ∃ M, M = w.heap.size := ⟨_, rfl⟩
  generalize hw1 : (w.alloc (.cells (srC m n (pk m n 0) (fun _ => Value.slice none 0 0)).toArray 124)) = w1 at *
  rw [← hM] at B0 ⊢
  have HM := Hi hM
  clear hw1 hM
  go_loopw [6] (fun i wr => ∃ k : Nat, k ≤ 16 ∧ i = .int .i64 k ∧ Hid (Bk wr M 124 (srC m n (pk m n k) (fun _ => Value.slice none 0 0)).toArray ∧ Ex w wr)) (fun i _ => 16 - (intOf i).toNat)
  case atStart => exact ⟨0, by omega, rfl, Hi ⟨B0.out, X0.out⟩⟩
  clear B0 X0
  obtain ⟨k, hk, rfl, P⟩ := hrel
  by_cases hlt : k < 16
  rotate_left
  · obtain rfl : k = 16 := by omega
    go_wp2_with fail
    go_ret
    exact ⟨M, rfl, ⟨by rw [srC_congr (q := pk m n 16) (E := fun _ => Value.slice none 0 0) (fun i hi => (if_pos hi).symm) (fun i hi => rfl)]; exact P.out.1, fun i _ => RW.nil _ _, fun i _ => newP_ok m n i, by unfold i64; omega, Nat.le_of_eq HM.out.symm, Below.size P.out.2⟩, P.out.2⟩
  have q0 : (0 : Int) ≤ (k : Int) := by omega
  have q1 : (k : Int) < 16 := by omega
  by_cases hxm : (k : Int) % n = m
  · have HXM := Hi hxm
    go_wp2_with (first | ((with_reducible refine so0 ?_ ?_); (focus rfl)) | ((with_reducible refine so4 [1000 + 3, 1000 + 24] ?_ ?_); (focus rfl)))
    refine at9 (by go_simp) fun K0 hK => wp_st1 _ _ M (2 + k * 4 + 1) (.int .u64 1) rfl rfl rfl P.out.1 (by rw [srC_len]; omega) (by kernel_rfl) rfl (fun w5 hd ho => hK _ _ ?_)
    clear hK
    replace P : Hid (Bk w5 M 124 (srC m n (updF (pk m n k) k ⟨0, 1, 0⟩) (fun _ => Value.slice none 0 0)).toArray ∧ Ex w w5) := Hi ⟨by rw [← srC_set0 m n (pk m n k) (fun _ => Value.slice none 0 0) (⟨0, 1, 0⟩) (j := 1) (.int .u64 1) hlt (by decide) (by first | rfl | (unfold pk; rw [if_neg (Nat.lt_irrefl k)]; rfl) | (rw [updF_same]; rfl))]; exact hd, ho.below w.heap.size (Nat.le_of_eq HM.out.symm) w P.out.2⟩
    clear hd ho
    go_wp2_with (first | ((with_reducible refine so0 ?_ ?_); (focus rfl)) | ((with_reducible refine so4 [1000 + 3, 1000 + 24] ?_ ?_); (focus rfl)))
    refine at9 (by go_simp) fun K0 hK => wp_st1 _ _ M (2 + k * 4) (.int .i64 1) rfl rfl rfl P.out.1 (by rw [srC_len]; omega) (by kernel_rfl) rfl (fun w5 hd ho => hK _ _ ?_)
    clear hK
    replace P : Hid (Bk w5 M 124 (srC m n (updF (updF (pk m n k) k ⟨0, 1, 0⟩) k ⟨1, 1, 0⟩) (fun _ => Value.slice none 0 0)).toArray ∧ Ex w w5) := Hi ⟨by rw [← srC_set0 m n (updF (pk m n k) k ⟨0, 1, 0⟩) (fun _ => Value.slice none 0 0) (⟨1, 1, 0⟩) (j := 0) (.int .i64 1) hlt (by decide) (by first | rfl | (unfold pk; rw [if_neg (Nat.lt_irrefl k)]; rfl) | (rw [updF_same]; rfl))]; exact hd, ho.below w.heap.size (Nat.le_of_eq HM.out.symm) w P.out.2⟩
    clear hd ho
    go_wp2_with (first | ((with_reducible refine so0 ?_ ?_); (focus rfl)) | ((with_reducible refine so4 [1000 + 3, 1000 + 24] ?_ ?_); (focus rfl)))
    have P2 := Hi (show _ ∧ _ from P.out)
    rw [updF_upd, show (⟨1, 1, 0⟩ : Pa) = newP m n k by unfold newP; rw [if_pos HXM.out], pk_next] at P2
    clear P
    (first | (refine ⟨?_, ?measure⟩; (repeat apply Exists.intro); refine ⟨?rel, rfl⟩) | refine ⟨?rel, ?measure⟩)
    case rel => exact ⟨k + 1, by omega, by go_num, P2⟩
    case measure => simp [intOf]; omega
  have HXM := Hi hxm
  go_wp2_with (first | ((with_reducible refine so0 ?_ ?_); (focus rfl)) | ((with_reducible refine so4 [1000 + 3, 1000 + 24] ?_ ?_); (focus rfl)))
  refine at9 (by go_simp) fun K0 hK => wp_st1 _ _ M (2 + k * 4 + 1) (.int .u64 1) rfl rfl rfl P.out.1 (by rw [srC_len]; omega) (by kernel_rfl) rfl (fun w5 hd ho => hK _ _ ?_)
  clear hK
  replace P : Hid (Bk w5 M 124 (srC m n (updF (pk m n k) k ⟨0, 1, 0⟩) (fun _ => Value.slice none 0 0)).toArray ∧ Ex w w5) := Hi ⟨by rw [← srC_set0 m n (pk m n k) (fun _ => Value.slice none 0 0) (⟨0, 1, 0⟩) (j := 1) (.int .u64 1) hlt (by decide) (by first | rfl | (unfold pk; rw [if_neg (Nat.lt_irrefl k)]; rfl) | (rw [updF_same]; rfl))]; exact hd, ho.below w.heap.size (Nat.le_of_eq HM.out.symm) w P.out.2⟩
  clear hd ho
  go_wp2_with (first | ((with_reducible refine so0 ?_ ?_); (focus rfl)) | ((with_reducible refine so4 [1000 + 3, 1000 + 24] ?_ ?_); (focus rfl)))
  have P2 := Hi (show _ ∧ _ from P.out)
  rw [show (⟨0, 1, 0⟩ : Pa) = newP m n k by unfold newP; rw [if_neg HXM.out], pk_next] at P2
  clear P
  (first | (refine ⟨?_, ?measure⟩; (repeat apply Exists.intro); refine ⟨?rel, rfl⟩) | refine ⟨?rel, ?measure⟩)
  case rel => exact ⟨k + 1, by omega, by go_num, P2⟩
  case measure => simp [intOf]; omega
theorem owned_any (w0 : World) (M : Nat) (m n : Int) (p : Nat → Pa) (R : Nat → Value) (xs : Nat → List Vt) (s : Nat) (hs : s < 16) (w : World) (h : RS w0 w M m n p R xs) : Calls Try.prog 90 #[.pointer (some ⟨M, 0, none⟩), .int .i64 s] w fun e w' => e = .returned (.int .i64 (heldE (p s))) ∧ Ex w w' := by
  have q0 : (0 : Int) ≤ (s : Int) := by omega
  have q1 : (s : Int) < 16 := by omega
  have c0 := (h.cells hs).1
  clear h
  by_cases h0 : (p s).role = 0
  · have e : heldE (p s) = 26 := by unfold heldE; rw [if_pos h0]
    rw [e]
    clear e
    go_enter Try.func90, Try.ntmps90
    go_wp2_with fail
    go_ret
    exact ⟨rfl, Ex.refl _⟩
  by_cases h2 : (p s).role = 2
  · have e : heldE (p s) = 27 := by unfold heldE; rw [if_neg h0, if_pos h2]
    rw [e]
    clear e
    go_enter Try.func90, Try.ntmps90
    go_wp2_with fail
    go_ret
    exact ⟨rfl, Ex.refl _⟩
  have e : heldE (p s) = 0 := by unfold heldE; rw [if_neg h0, if_neg h2]
  rw [e]
  clear e
  go_enter Try.func90, Try.ntmps90
  go_wp2_with fail
  go_ret
  exact ⟨rfl, Ex.refl _⟩
end Go.Proofs.Ytmjfnpmnhehnkaa
namespace Go.Proofs.Ytmjfnpmnhehnkaa
open Go.RowKit
def RFindPost (xs : List Vt) (s : Nat) (id : List UInt8) (w : World) (e : Ending) (w' : World) : Prop := ∃ (x : Vt) (k : Int), e = .returned (.tuple #[.int .i64 (s : Int), .int .i64 k]) ∧ GetP xs id x k ∧ Ex w w'
def RGot (role : Int) (l : List Vt) (id : List UInt8) (x : Vt) (b : Bool) : Prop := (b = false ∧ x = zeroVt ∧ (role = 0 ∨ ∀ y ∈ l, y.id ≠ id)) ∨ (b = true ∧ role ≠ 0 ∧ ∃ j : Nat, l[j]? = some x ∧ x.id = id)
def RGetPost (role : Int) (l : List Vt) (id : List UInt8) (w : World) (e : Ending) (w' : World) : Prop := ∃ (x : Vt) (b : Bool), e = .returned (.tuple #[x.V, .bool b]) ∧ RGot role l id x b ∧ VI w' x ∧ Ex w w'
theorem rfind_any (w0 : World) (M : Nat) (m n : Int) (p : Nat → Pa) (R : Nat → Value) (xs : Nat → List Vt) (s : Nat) (hs16 : s < 16) (id : List UInt8) (hid : id.length = 4) (hs : Sm.shV id = (s : Int)) (w : World) (h : RS w0 w M m n p R xs) : Calls Try.prog 89 #[.pointer (some ⟨M, 0, none⟩), digV id] w (RFindPost (xs s) s id w) := by
 have HP := Hi h
 have HIDL := Hi hid
 have HSH := Hi hs
 obtain ⟨ad, cap, hR, hin, hcap⟩ := (h.rw s hs16).inn
 have HIN := Hi hin
 obtain ⟨ys, hys⟩ : ∃ l, l = xs s := ⟨_, rfl⟩
 rw [← hys] at hR HIN ⊢
 have HYS := Hi hys
 have HR := Hi hR
 obtain ⟨nn, hn⟩ : ∃ n, n = ys.length := ⟨_, rfl⟩
 rw [← hn] at HR
 have HN := Hi hn
 have hnc : nn ≤ cap := by rw [hn]; exact HIN.out.len
 have qs0 : (0 : Int) ≤ (s : Int) := by omega
 have qs1 : (s : Int) < 16 := by omega
 obtain ⟨cs, hcs⟩ : ∃ cs, cs = (Lib.byteCells id).toArray := ⟨_, rfl⟩
 have I0 : Hid (Bk (w.alloc (.cells cs 32)) w.heap.size 32 (Lib.byteCells id).toArray) := Hi (by rw [hcs]; exact Bk.new rfl _ _)
 have BW : Hid (Ex w (w.alloc (.cells cs 32))) := Hi (Ex.alloc w _)
 rw [show (Calls Try.prog 89 #[.pointer (some ⟨M, 0, none⟩), digV id] w) = (Calls Try.prog 89 #[.pointer (some ⟨M, 0, none⟩), .agg cs] w) by rw [hcs]; rfl]
 clear hcs h hid hin hn hys hs hR
 go_enter Try.func89, Try.ntmps89
 go_wp2_with ((with_reducible refine so0 ?_ ?_); (focus rfl))
 generalize hw1 : (w.alloc (.cells cs 32)) = w1 at *
 clear hw1
 obtain ⟨B, hB⟩ : ∃ B, B = w.heap.size := ⟨_, rfl⟩
 rw [← hB] at I0 ⊢
 have HB := Hi hB
 clear hB
 refine at9 (by go_simp) fun K0 hK => ld_idb _ _ id HIDL.out rfl rfl I0.out (hK _ _ ?_)
 clear hK
 go_wp2_with ((with_reducible refine so0 ?_ ?_); (focus rfl))
 refine (Sm.rof_any id HIDL.out w1).mono ?_
 rintro e w2 ⟨rfl, x2⟩
 rw [HSH.out]
 replace I0 := Hi (I0.out.ext x2)
 replace BW := Hi (Ex.trans BW.out x2)
 clear x2
 go_wp2_with fail
 go_loopw [7] (fun t7 wr => ∃ i : Nat, i ≤ nn ∧ t7 = .int .i64 i ∧ Hid (∀ y ∈ ys.take i, y.id ≠ id) ∧ Hid (Ex w2 wr)) (fun t7 _ => nn - (intOf t7).toNat)
 case atStart => exact ⟨0, by omega, rfl, Hi (fun y hy => by simp at hy), Hi (Ex.refl _)⟩
 obtain ⟨i, hi, rfl, HKK, BX⟩ := hrel
 have PBX := Hi ((HP.out.ext BW.out).ext BX.out)
 have c0 : wr.cell? ⟨M, 2 + s * 4 + 3, none⟩ = some (.slice ad nn cap) := by rw [(PBX.out.cells hs16).2.2.2]; exact congrArg some HR.out
 by_cases hlt : i < nn
 rotate_left
 ·obtain rfl : i = nn := by omega
  have q1 : ¬ (i : Int) < (i : Int) := by omega
  go_wp2_with fail
  go_ret2
  exact ⟨zeroVt, -1, rfl, Or.inl ⟨rfl, rfl, fun y hy => HKK.out y (by rw [List.take_of_length_le (by rw [← HN.out]; exact Nat.le_refl _)]; exact hy)⟩, Ex.trans BW.out BX.out⟩
 have q0 : (0 : Int) ≤ (i : Int) := by omega
 have q1 : (i : Int) < (nn : Int) := by omega
 obtain ⟨ab, ofs, rfl, hab, hra⟩ := ((HIN.out.ext BW.out).ext BX.out).read (by rw [← HN.out]; omega)
 obtain ⟨x, hx⟩ : ∃ x, ys[i]? = some x := ⟨_, List.getElem?_eq_getElem (by rw [← HN.out]; exact hlt)⟩
 have XOK := Hi (HIN.out.ok i x hx)
 have XR : Hid (wr.rangeAt ab (ofs + i * 42) x.C) := Hi (hra i x hx)
 have HX := Hi hx
 have I1 := Hi (I0.out.ext BX.out)
 have HAB := Hi hab
 clear hra hab hx
 go_wp2_with fail
 have hS0 : ∀ (listed : Array Bool) (f : Nat → Value), (∀ i, listed.getD i false = false) → Ex wr wr.drew := fun _ _ _ => (Below.refl wr.heap.size wr).drew
 obtain ⟨T, hT⟩ : ∃ T : List (Value → Prop), T = [(fun zz => zz = .pointer (some ⟨M, 0, none⟩)), (fun zz => zz = .int .i64 (s : Int)), (fun zz => zz = .pointer (some ⟨M, 0, none⟩)), (fun zz => zz = .pointer (some ⟨M, 2, none⟩)), (fun zz => zz = .pointer (some ⟨M, 2 + s * 4, none⟩)), (fun zz => zz = .pointer (some ⟨M, 2 + s * 4 + 3, none⟩)), (fun zz => zz = .slice (some ⟨ab, ofs, none⟩) nn cap), (fun zz => zz = .int .i64 (i : Int)), (fun zz => zz = .pointer (some ⟨ab, ofs + i * 42, none⟩)), (fun zz => zz = .pointer (some ⟨ab, ofs + i * 42, none⟩)), (fun zz => zz = digV x.id), (fun zz => zz = digV id), (fun zz => zz = .bool (decide (x.id = id)))] := ⟨_, rfl⟩
 refine wp_region_gen (JS T ([] : List (Nat × Nat)) (fun _ _ wz => Ex wr wz)) (by kernel_rfl) (by kernel_rfl) (by kernel_rfl) (fitB_spec (by kernel_rfl)) (fun listed f h => JS.start listed f h (hS0 listed f h)) ?_ ?_
 ·intro i o ho
  have hi : i < 13 := (Array.getElem?_eq_some_iff.1 ho).1
  have hi' : i = 0 ∨ i = 1 ∨ i = 2 ∨ i = 3 ∨ i = 4 ∨ i = 5 ∨ i = 6 ∨ i = 7 ∨ i = 8 ∨ i = 9 ∨ i = 10 ∨ i = 11 ∨ i = 12 := by omega
  clear hi
  rcases hi' with rfl | rfl | rfl | rfl | rfl | rfl | rfl | rfl | rfl | rfl | rfl | rfl | rfl
  all_goals (simp only [List.getElem?_toArray, List.getElem?_cons_zero, List.getElem?_cons_succ, Option.some.injEq] at ho; subst ho; intro listed f a w3 hJ hsz hls hun hdep hout hlat; first | (rw [if_pos (by rfl)]; intro K hK) | skip)
  ·have q0 := hout 0 ob
   exact wp_mw _ rfl q0 (hK _ _ (hJ.nx hls hT rfl rfl hJ.st nh))
  ·have q6 := hout 6 ob
   exact wp_mw _ rfl q6 (hK _ _ (hJ.nx hls hT rfl rfl hJ.st nh))
  ·have q22 := hJ.iq hT (hdep ⟨0, .data⟩ (by simp) rfl) rfl _ rfl _ rfl
   clear hsz hdep hout hlat
   go_simp
   exact hK _ _ (hJ.nx hls hT rfl rfl hJ.st nh)
  ·have q24 := hJ.iq hT (hdep ⟨2, .data⟩ (by simp) rfl) rfl _ rfl _ rfl
   clear hsz hdep hout hlat
   go_simp
   exact hK _ _ (hJ.nx hls hT rfl rfl hJ.st nh)
  ·have q25 := hJ.iq hT (hdep ⟨3, .data⟩ (by simp) rfl) rfl _ rfl _ rfl
   have q23 := hJ.iq hT (hdep ⟨1, .data⟩ (by simp) rfl) rfl _ rfl _ rfl
   clear hsz hdep hout hlat
   go_simp
   exact hK _ _ (hJ.nx hls hT rfl rfl hJ.st nh)
  ·have q26 := hJ.iq hT (hdep ⟨4, .data⟩ (by simp) rfl) rfl _ rfl _ rfl
   clear hsz hdep hout hlat
   go_simp
   exact hK _ _ (hJ.nx hls hT rfl rfl hJ.st nh)
  ·have q27 := hJ.iq hT (hdep ⟨5, .data⟩ (by simp) rfl) rfl _ rfl _ rfl
   have cc := (show w3.cell? ⟨M, 2 + s * 4 + 3, none⟩ = some (.slice (some ⟨ab, ofs, none⟩) nn cap) from by rw [((PBX.out.ext hJ.st).cells hs16).2.2.2]; exact congrArg some HR.out)
   clear hsz hdep hout hlat
   go_simp
   exact hK _ _ (hJ.nx hls hT rfl rfl hJ.st nh)
  ·have q7 := hout 7 ob
   exact wp_mw _ rfl q7 (hK _ _ (hJ.nx hls hT rfl rfl hJ.st nh))
  ·have q28 := hJ.iq hT (hdep ⟨6, .data⟩ (by simp) rfl) rfl _ rfl _ rfl
   have q29 := hJ.iq hT (hdep ⟨7, .data⟩ (by simp) rfl) rfl _ rfl _ rfl
   clear hsz hdep hout hlat
   go_simp
   exact hK _ _ (hJ.nx hls hT rfl rfl hJ.st nh)
  ·have q30 := hJ.iq hT (hdep ⟨8, .data⟩ (by simp) rfl) rfl _ rfl _ rfl
   clear hsz hdep hout hlat
   go_simp
   exact hK _ _ (hJ.nx hls hT rfl rfl hJ.st nh)
  ·have q31 := hJ.is hT (hdep ⟨9, .data⟩ (by simp) rfl) rfl _ rfl _ rfl
   exact ld_vid9 _ ab (ofs + i * 42) x XOK.out rfl q31 (fun j u hu => (Below.cell (p := ⟨ab, ofs + i * 42 + j, none⟩) hJ.st HAB.out).trans (XR.out j u hu)) (hK _ _ (hJ.nx hls hT rfl rfl hJ.st nh))
  ·have q3 := hout 3 ob
   exact ld_idb _ _ id HIDL.out rfl q3 (I1.out.ext hJ.st) (hK _ _ (hJ.nx hls hT rfl rfl hJ.st nh))
  have q32 := hJ.is hT (hdep ⟨10, .data⟩ (by simp) rfl) rfl _ rfl _ rfl
  have q33 := hJ.is hT (hdep ⟨11, .data⟩ (by simp) rfl) rfl _ rfl _ rfl
  exact wp_eql_id _ _ _ rfl x.id id XOK.out.idN HIDL.out q32 q33 (hK _ _ (hJ.nx hls hT rfl rfl hJ.st nh))
 intro listed f w3 hall hJ
 have f12 := hJ.fa hT (hall 12 (by simp)) rfl
 have hst := hJ.st
 simp only [putAll, Act.put, List.setIfInBounds_toArray, List.set_cons_zero, List.set_cons_succ, Nat.zero_add, Nat.reduceAdd]
 have xx : Ex wr w3 := hst
 rw [f12]
 clear f12
 clear hJ hall hT
 clear hst hS0
 replace BX := Hi (Ex.trans BX.out xx)
 clear xx c0 XR I1 PBX HAB
 by_cases hxi : x.id = id
 ·rw [decide_eq_true hxi]
  have HXI := Hi hxi
  clear hxi
  go_wp2_with fail
  go_ret2
  exact ⟨x, (i : Int), rfl, Or.inr ⟨i, rfl, HX.out, HXI.out⟩, Ex.trans BW.out BX.out⟩
 rw [decide_eq_false hxi]
 have HXI := Hi hxi
 clear hxi
 go_wp2_with fail
 (first | (refine ⟨?_, ?measure⟩; (repeat apply Exists.intro); refine ⟨?rel, rfl⟩) | refine ⟨?rel, ?measure⟩)
 case rel => exact ⟨i + 1, by omega, by go_num, Hi (fun y hy => by
       rw [List.take_add_one, HX.out, List.mem_append] at hy
       rcases hy with hy | hy
       ·exact HKK.out y hy
       ·simp at hy; rw [hy]; exact HXI.out), BX⟩
 case measure => simp [intOf]; omega
theorem rget_any (w0 : World) (M : Nat) (m n : Int) (p : Nat → Pa) (R : Nat → Value) (xs : Nat → List Vt) (s : Nat) (hs16 : s < 16) (id : List UInt8) (hid : id.length = 4) (hs : Sm.shV id = (s : Int)) (w : World) (h : RS w0 w M m n p R xs) : Calls Try.prog 55 #[.pointer (some ⟨M, 0, none⟩), digV id] w (RGetPost (p s).role (xs s) id w) := by
 have HP := Hi h
 have HIDL := Hi hid
 have HSH := Hi hs
 obtain ⟨ad, cap, hR, hin, hcap⟩ := (h.rw s hs16).inn
 have HIN := Hi hin
 obtain ⟨ys, hys⟩ : ∃ l, l = xs s := ⟨_, rfl⟩
 rw [← hys] at hR HIN ⊢
 have HYS := Hi hys
 have HR := Hi hR
 obtain ⟨nn, hn⟩ : ∃ n, n = ys.length := ⟨_, rfl⟩
 rw [← hn] at HR
 have HN := Hi hn
 have hnc : nn ≤ cap := by rw [hn]; exact HIN.out.len
 have qs0 : (0 : Int) ≤ (s : Int) := by omega
 have qs1 : (s : Int) < 16 := by omega
 obtain ⟨cs, hcs⟩ : ∃ cs, cs = (Lib.byteCells id).toArray := ⟨_, rfl⟩
 obtain ⟨rl, hrl⟩ : ∃ r, r = (p s).role := ⟨_, rfl⟩
 rw [← hrl]
 have HRL := Hi hrl
 clear hrl
 have I0 : Hid (Bk ((w.alloc (.cells cs 32)).alloc (.cells zeroVt.C.toArray 36)) w.heap.size 32 (Lib.byteCells id).toArray) := Hi (by rw [hcs]; exact (Bk.new rfl _ _).more _)
 have Z0 : Hid (VB ((w.alloc (.cells cs 32)).alloc (.cells zeroVt.C.toArray 36)) (w.heap.size + 1) zeroVt) := Hi ⟨zeroVt_ok, Bk.new (by simp) _ _⟩
 have BW : Hid (Ex w ((w.alloc (.cells cs 32)).alloc (.cells zeroVt.C.toArray 36))) := Hi (Ex.trans (Ex.alloc w _) (Ex.alloc _ _))
 rw [show (Calls Try.prog 55 #[.pointer (some ⟨M, 0, none⟩), digV id] w) = (Calls Try.prog 55 #[.pointer (some ⟨M, 0, none⟩), .agg cs] w) by rw [hcs]; rfl]
 clear hcs h hid hin hn hys hs hR
 go_enter Try.func55, Try.ntmps55
 go_wp2_with ((with_reducible refine so0 ?_ ?_); (focus rfl))
 (with_reducible refine ⟨?_⟩)
 change wpList _ _ _ _ _ ((w.alloc (.cells cs 32)).alloc (.cells zeroVt.C.toArray 36))
 generalize hw1 : ((w.alloc (.cells cs 32)).alloc (.cells zeroVt.C.toArray 36)) = w1 at *
 clear hw1
 obtain ⟨B, hB⟩ : ∃ B, B = w.heap.size := ⟨_, rfl⟩
 rw [← hB] at I0 Z0 ⊢
 have HB := Hi hB
 clear hB
 (with_reducible refine at_any ?_ ?_); (focus go_simp); refine fun K0 hK => ld_idb _ _ id HIDL.out rfl rfl I0.out (hK _ _ ?_)
 clear hK
 go_wp2_with fail
 refine (rfind_any w0 M m n p R xs s hs16 id HIDL.out HSH.out w1 (HP.out.ext BW.out)).mono ?_
 rintro e w2 ⟨x, k, rfl, hg, x2⟩
 rw [← HYS.out] at hg
 have HG := Hi hg
 replace Z0 := Hi (Z0.out.ext x2)
 replace BW := Hi (Ex.trans BW.out x2)
 clear hg x2
 have PBX := Hi (HP.out.ext BW.out)
 have c0 := (PBX.out.cells hs16).1
 have c3 : w2.cell? ⟨M, 2 + s * 4 + 3, none⟩ = some (.slice ad nn cap) := by rw [(PBX.out.cells hs16).2.2.2]; exact congrArg some HR.out
 rw [← HRL.out] at c0
 rcases HG.out with ⟨rfl, rfl, hno⟩ | ⟨j, rfl, hx, hxi⟩
 ·have HNO := Hi hno
  clear hno HG
  go_wp2_with ((with_reducible refine so0 ?_ ?_); (focus rfl))
  refine at9 (by go_simp) fun K0 hK => wp_build _ _ rfl _ built_zero (hK _ _ ?_)
  clear hK
  go_wp2_with ((with_reducible refine so0 ?_ ?_); (focus rfl))
  refine at9 (by go_simp) fun K0 hK => st_v _ _ (B + 1) zeroVt rfl rfl rfl zeroVt_ok Z0.out.2 (by rw [List.size_toArray, Vt.len Z0.out.1]) (fun w5 hd ho => hK _ _ ?_)
  clear hK
  have BZ := ho.below w.heap.size (by rw [← HB.out]; omega) w BW.out
  go_wp2_with fail
  exact bodyPost_ret (res_v2 rfl _ _ (B + 1) rfl zeroVt hd) rfl ⟨zeroVt, false, rfl, Or.inl ⟨rfl, rfl, Or.inr HNO.out⟩, ⟨zeroVt_ok, nilB_in _ _⟩, BZ⟩
 have HX := Hi hx
 have HXI := Hi hxi
 have hj : j < nn := by rw [HN.out]; exact (List.getElem?_eq_some_iff.1 hx).1
 clear hx hxi HG
 have q2 : ¬ (j : Int) < 0 := by omega
 have q3 : (0 : Int) ≤ (j : Int) := by omega
 have q4 : (j : Int) < (nn : Int) := by omega
 by_cases h0 : rl = 0
 ·subst h0
  go_wp2_with ((with_reducible refine so0 ?_ ?_); (focus rfl))
  refine at9 (by go_simp) fun K0 hK => wp_build _ _ rfl _ built_zero (hK _ _ ?_)
  clear hK
  go_wp2_with ((with_reducible refine so0 ?_ ?_); (focus rfl))
  refine at9 (by go_simp) fun K0 hK => st_v _ _ (B + 1) zeroVt rfl rfl rfl zeroVt_ok Z0.out.2 (by rw [List.size_toArray, Vt.len Z0.out.1]) (fun w5 hd ho => hK _ _ ?_)
  clear hK
  have BZ := ho.below w.heap.size (by rw [← HB.out]; omega) w BW.out
  go_wp2_with fail
  exact bodyPost_ret (res_v2 rfl _ _ (B + 1) rfl zeroVt hd) rfl ⟨zeroVt, false, rfl, Or.inl ⟨rfl, rfl, Or.inl rfl⟩, ⟨zeroVt_ok, nilB_in _ _⟩, BZ⟩
 obtain ⟨ab, ofs, rfl, hab, hra⟩ := (HIN.out.ext BW.out).read (by rw [← HN.out]; omega)
 have XK := Hi (HIN.out.ok j x HX.out)
 have XR : Hid (w2.rangeAt ab (ofs + j * 42) x.C) := Hi (hra j x HX.out)
 have XV := Hi ((PBX.out.rw s hs16).vi PBX.out.sz j x (by rw [← HYS.out]; exact HX.out))
 have XP := Hi ((PBX.out.rw s hs16).ins j x (by rw [← HYS.out]; exact HX.out))
 have H0 := Hi h0
 have h0b : (rl == (0 : Int)) = false := by simpa using h0
 clear hra hab
 go_wp2_with ((with_reducible refine so0 ?_ ?_); (focus rfl))
 refine at9 (by go_simp) fun K0 hK => ld_vr _ ab (ofs + j * 42) x XK.out rfl rfl XR.out (hK _ _ ?_)
 clear hK
 go_wp2_with ((with_reducible refine so0 ?_ ?_); (focus rfl))
 refine at9 (by go_simp) fun K0 hK => st_v _ _ (B + 1) x rfl rfl rfl XK.out Z0.out.2 (by rw [List.size_toArray, Vt.len Z0.out.1]) (fun w5 hd ho => hK _ _ ?_)
 clear hK
 have BZ := ho.below w.heap.size (by rw [← HB.out]; omega) w BW.out
 have V5 : VI w5 x := ((HP.out.ext BZ).rw s hs16).vi (HP.out.ext BZ).sz j x (by rw [← HYS.out]; exact HX.out)
 go_wp2_with fail
 exact bodyPost_ret (res_v2 rfl _ _ (B + 1) rfl x hd) rfl ⟨x, true, rfl, Or.inr ⟨rfl, H0.out, j, HX.out, HXI.out⟩, V5, BZ⟩
end Go.Proofs.Ytmjfnpmnhehnkaa
