/- MBlG, MBlK -/
import Derived.Test.YtopamplmpfndlaaEaj
import Derived.Laws.BytesArg
set_option maxRecDepth 100000
set_option maxHeartbeats 16000000
namespace Go.Proofs.Ytopamplmpfndlaa.Sm
open Go.RowKit
def strL (l : List UInt8) : ByteArray := ⟨l.toArray⟩
theorem toList_beq (s t : ByteArray) : (s.toList == t.toList) = decide (s = t) := by
 rw [ByteArray.toList_eq, ByteArray.toList_eq]
 by_cases h : s = t
 ·subst h; simp
 have : ¬ s.data.toList = t.data.toList := fun e => h (by cases s; cases t; simp at e; rw [e])
 rw [decide_eq_false h]
 exact beq_eq_false_iff_ne.2 this
theorem map_back (l : List UInt8) : List.map ((fun n : Int => UInt8.ofNat n.toNat) ∘ fun b : UInt8 => (b.toNat : Int)) l = l := by
 induction l with
 | nil => rfl
 | cons x m ih => simp only [List.map_cons, ih]; simp
theorem pt_conv (p : Pt) (w : World) {B : Nat} (h : p.In w B) : (convert 23 9 (.slice p.ad p.l.length p.cap)).run Try.prog w = .ok (.string (strL p.l)) w := by
 by_cases h0 : 0 < p.l.length
 ·obtain ⟨a, o, e, _, hc⟩ := h.read h0
  have hx := run_convert_bytes_arg (P := Try.prog) w 23 5 Try.underlying23 Try.underlying5 a o p.l.length p.cap (p.l.map fun b => (b.toNat : Int)) (by simp) (fun i hi => by rw [hc i hi]; simp [List.getD, hi]) 9 Try.underlying9
  rw [e, hx]
  congr 2
  unfold strOfNums strL
  congr 1
  simp
  exact map_back p.l
 have hl : p.l = [] := List.eq_nil_of_length_eq_zero (by omega)
 rw [hl]
 rw [run_convert_bytes_string w 23 9 5 _ _ _ Try.underlying23 Try.underlying5 Try.underlying9]
 cases p.ad <;> simp [Conv.bytesToString, loadCells]
 all_goals rfl
theorem strL_eq (l m : List UInt8) : (strL l = strL m) ↔ l = m := by
 unfold strL
 constructor
 ·intro h
  injection h with h
  simpa using congrArg Array.toList h
 intro h; rw [h]
theorem equal_any (p q : Pt) (w : World) {B : Nat} (hp : p.In w B) (hq : q.In w B) :
  Calls Try.prog 178 #[p.V, q.V] w fun e w' => e = .returned (.bool (decide (p.l = q.l))) ∧ w = w' := by
 have c1 := pt_conv p w hp
 have c2 := pt_conv q w hq
 obtain ⟨s, hs⟩ : ∃ s, s = strL p.l := ⟨_, rfl⟩
 obtain ⟨t, ht⟩ : ∃ s, s = strL q.l := ⟨_, rfl⟩
 rw [← hs] at c1
 rw [← ht] at c2
 have hd : decide (p.l = q.l) = decide (s = t) := by rw [hs, ht]; exact decide_eq_decide.2 (strL_eq _ _).symm
 have HD := Lib.hid hd
 clear hs ht hd
 unfold Pt.V
 generalize p.l.length = n1 at c1 ⊢
 generalize q.l.length = n2 at c2 ⊢
 go_enter Try.func178, Try.ntmps178
 go_wp2_with fail
 go_ret
 refine ⟨smret (congrArg Value.bool ?_), rfl⟩
 rw [HD.out]
 exact toList_beq s t
theorem same_any (p q : Pt) (w : World) {B : Nat} (hp : p.In w B) (hq : q.In w B) :
  Calls Try.prog 146 #[p.V, q.V] w fun e w' => e = .returned (.bool (decide (p.l = q.l))) ∧ w = w' := by
 have E := Lib.hid (equal_any p q w hp hq)
 obtain ⟨d, hd⟩ : ∃ d, d = decide (p.l = q.l) := ⟨_, rfl⟩
 rw [← hd] at E ⊢
 clear hd
 unfold Pt.V at E ⊢
 go_enter Try.func146, Try.ntmps146
 go_wp2_with fail
 refine E.out.mono ?_
 rintro e w1 ⟨rfl, rfl⟩
 go_wp2_with fail
 go_ret
 exact ⟨rfl, rfl⟩
end Go.Proofs.Ytopamplmpfndlaa.Sm
namespace Go.Proofs.Ytopamplmpfndlaa.Sm
open Go.RowKit
theorem cut_any (p : Pt) (n : Nat) (hn : n ≤ 100000) (w : World) (hp : p.In w w.heap.size) (hm : p.l.length ≤ 9223372036854775807) :
  Calls Try.prog 15 #[p.V, .int .i64 n] w fun e w' => (∃ q : Pt, e = .returned q.V ∧ q.l = p.l.take n ∧ q.In w' w'.heap.size) ∧ w' = w := by
 have HP := Lib.hid hp
 obtain ⟨ln, hln⟩ : ∃ x, x = p.l.length := ⟨_, rfl⟩
 have hv : p.V = .slice p.ad ln p.cap := by rw [hln]; rfl
 have hcap : ln ≤ p.cap := by rw [hln]; exact hp.cap
 rw [← hln] at hm
 have HLN := Lib.hid hln
 have HV := Lib.hid hv
 rw [hv]
 clear hp hln hv
 go_enter Try.func15, Try.ntmps15
 by_cases h : n < ln
 ·have hc : n ≤ p.cap := by omega
  go_wp2_with fail
  go_ret
  have hl : (p.l.take n).length = n := by rw [List.length_take, ← HLN.out]; omega
  refine ⟨⟨⟨p.ad, p.cap, p.l.take n⟩, ?_, rfl, ?_⟩, rfl⟩
  ·unfold Pt.V; simp only [hl]; rfl
  refine ⟨by simp only [hl]; exact hc, HP.out.nil, fun h0 => ?_⟩
  simp only [hl] at h0 ⊢
  obtain ⟨a, o, e, ha, hcc⟩ := HP.out.read (by rw [← HLN.out]; omega)
  refine ⟨a, o, e, ha, fun i hi => ?_⟩
  rw [hcc i (by rw [← HLN.out]; omega)]
  simp [List.getD, List.getElem?_take, hi]
 go_wp2_with fail
 go_ret
 refine ⟨⟨p, ?_, ?_, HP.out⟩, rfl⟩
 ·rw [HV.out]; rfl
 rw [List.take_of_length_le (by rw [← HLN.out]; omega)]
theorem within_any (c lo hi : Int) (hc : -9223372036854775808 ≤ c ∧ c ≤ 9223372036854775807) (h0 : 0 ≤ lo) (h1 : lo ≤ hi) (h2 : hi ≤ 1000000) (w : World) :
  Calls Try.prog 14 #[.int .i64 c, .int .i64 lo, .int .i64 hi] w fun e w' => (∃ m : Nat, e = .returned (.int .i64 m) ∧ lo ≤ m ∧ m ≤ hi) ∧ w' = w := by
 go_enter Try.func14, Try.ntmps14
 obtain ⟨n, hn⟩ : ∃ n, n = hi - lo + 1 := ⟨_, rfl⟩
 have n0 : 0 < n := by omega
 have m1 : c.tmod n < n := Int.tmod_lt_of_pos _ n0
 have m2 : -n < c.tmod n := by
  have h := Int.tmod_lt_of_pos (-c) n0
  rw [Int.neg_tmod] at h; omega
 have m3 := Int.emod_nonneg c (show n ≠ 0 by omega)
 have m4 := Int.emod_lt_of_pos c n0
 rw [hn] at m1 m2 m3 m4
 clear hn n0
 by_cases a1 : lo ≤ c
 ·by_cases a2 : c ≤ hi
  ·clear m1 m2 m3 m4
   go_wp2_with fail
   go_ret
   exact ⟨⟨c.toNat, by show Ending.returned (Value.int .i64 c) = _; rw [Int.toNat_of_nonneg (by omega)], by omega, by omega⟩, rfl⟩
  go_wp2_with fail
  all_goals (go_ret; refine ⟨⟨_, congrArg Ending.returned (congrArg (Value.int .i64) (Int.toNat_of_nonneg ?_).symm), ?_, ?_⟩, rfl⟩ <;> omega)
 go_wp2_with fail
 all_goals (go_ret; refine ⟨⟨_, congrArg Ending.returned (congrArg (Value.int .i64) (Int.toNat_of_nonneg ?_).symm), ?_, ?_⟩, rfl⟩ <;> omega)
end Go.Proofs.Ytopamplmpfndlaa.Sm
