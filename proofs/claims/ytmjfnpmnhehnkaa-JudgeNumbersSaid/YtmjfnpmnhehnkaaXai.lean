/- Wa, FlR, FlS, FlT -/
import Derived.Test.YtmjfnpmnhehnkaaXah
import Derived.Laws.Slices
namespace Go.Proofs.Ytmjfnpmnhehnkaa
open Go.RowKit
theorem Qt.right_iff (q : Qt) : q.ct.right = true ↔ (0 ≤ q.client ∧ q.client < 4 ∧ q.num ≤ 1099511627776) ∧ (((q.op = 1 ∨ q.op = 3) ∧ 1 ≤ q.lim ∧ q.lim ≤ 32 ∧ q.sec.l.length ≤ 64) ∨ (q.op = 2 ∧ q.lim = 0 ∧ q.own = z16 ∧ q.sec.l.length = 0) ∨ (q.op = 4 ∧ q.lim = 0 ∧ q.pin = z16 ∧ q.sec.l.length = 0)) := by
 have hs : q.sec.l.length = 0 ↔ q.sec.l = [] := List.length_eq_zero_iff
 rw [hs]
 show (decide (0 ≤ q.client ∧ q.client < 4 ∧ q.num ≤ 1099511627776) && (if q.op = 1 ∨ q.op = 3 then decide (1 ≤ q.lim ∧ q.lim ≤ 32) && decide (q.sec.l.length ≤ 64) else if q.op = 2 then decide (q.lim = 0) && decide (q.own = z16) && decide (q.sec.l = []) else if q.op = 4 then decide (q.lim = 0) && decide (q.pin = z16) && decide (q.sec.l = []) else false)) = true ↔ _
 rw [Bool.and_eq_true, decide_eq_true_eq]
 refine and_congr_right fun _ => ?_
 by_cases h1 : q.op = 1 ∨ q.op = 3
 ·rw [if_pos h1]
  simp only [Bool.and_eq_true, decide_eq_true_eq]
  constructor
  ·rintro ⟨⟨a, b⟩, c⟩; exact Or.inl ⟨h1, a, b, c⟩
  rintro (⟨_, a, b, c⟩ | ⟨a, _⟩ | ⟨a, _⟩)
  ·exact ⟨⟨a, b⟩, c⟩
  ·omega
  omega
 rw [if_neg h1]
 by_cases h2 : q.op = 2
 ·rw [if_pos h2]
  simp only [Bool.and_eq_true, decide_eq_true_eq]
  constructor
  ·rintro ⟨⟨a, b⟩, c⟩; exact Or.inr (Or.inl ⟨h2, a, b, c⟩)
  rintro (⟨a, _⟩ | ⟨_, a, b, c⟩ | ⟨a, _⟩)
  ·exact absurd a h1
  ·exact ⟨⟨a, b⟩, c⟩
  omega
 rw [if_neg h2]
 by_cases h4 : q.op = 4
 ·rw [if_pos h4]
  simp only [Bool.and_eq_true, decide_eq_true_eq]
  constructor
  ·rintro ⟨⟨a, b⟩, c⟩; exact Or.inr (Or.inr ⟨h4, a, b, c⟩)
  rintro (⟨a, _⟩ | ⟨a, _⟩ | ⟨_, a, b, c⟩)
  ·exact absurd a h1
  ·omega
  exact ⟨⟨a, b⟩, c⟩
 rw [if_neg h4]
 constructor
 ·intro h; cases h
 rintro (⟨a, _⟩ | ⟨a, _⟩ | ⟨a, _⟩)
 ·exact absurd a h1
 ·exact absurd a h2
 exact absurd a h4
theorem ret_b {z b : Bool} {w w' : World} (h : z = b) (hx : Ex w w') : (Ending.returned (.bool b) = Ending.returned (.bool z)) ∧ Ex w w' := ⟨by rw [h], hx⟩
set_option maxHeartbeats 8000000 in
set_option maxRecDepth 100000 in
theorem rqright_any (q : Qt) (w : World) (ha : QI w q) : Calls Try.prog 109 #[q.V] w fun e w' => e = .returned (.bool q.ct.right) ∧ Ex w w' := by
 have hr := Qt.right_iff q
 obtain ⟨z, hz⟩ : ∃ z, z = q.ct.right := ⟨_, rfl⟩
 rw [← hz] at hr ⊢
 have HR := Hi hr
 clear hz hr
 have CN := Hi (fun w1 => rnum_any q.num w1)
 obtain ⟨cs, hcs⟩ : ∃ cs, cs = q.C.toArray := ⟨_, rfl⟩
 have A0 : Hid (QB (w.alloc (.cells cs 86)) w.heap.size q) := Hi ⟨ha.ok, by rw [hcs]; exact Bk.new rfl _ _⟩
 have BW : Hid (Ex w (w.alloc (.cells cs 86))) := Hi (Ex.alloc w _)
 rw [show (Calls Try.prog 109 #[q.V] w) = (Calls Try.prog 109 #[.agg cs] w) by rw [hcs]; rfl]
 clear hcs ha
 obtain ⟨q0, q21, q22, q55, q56⟩ := A0.out.cells
 unfold Pt.V at q21
 by_cases h1 : q.client < 0
 ·go_enter Try.func109, Try.ntmps109
  go_wp2_with fail
  go_ret
  have e : z = false := Bool.eq_false_iff.2 (fun h => by rcases (HR.out.1 h) with ⟨⟨a1, a2, a3⟩, ⟨b1, b2, b3, b4⟩ | ⟨b1, b2, b3, b4⟩ | ⟨b1, b2, b3, b4⟩⟩ <;> omega)
  exact ret_b e BW.out
 by_cases h2 : q.client ≥ 4
 ·go_enter Try.func109, Try.ntmps109
  go_wp2_with fail
  go_ret
  have e : z = false := Bool.eq_false_iff.2 (fun h => by rcases (HR.out.1 h) with ⟨⟨a1, a2, a3⟩, ⟨b1, b2, b3, b4⟩ | ⟨b1, b2, b3, b4⟩ | ⟨b1, b2, b3, b4⟩⟩ <;> omega)
  exact ret_b e BW.out
 by_cases h3 : q.num ≤ 1099511627776
 case neg =>
  rw [decide_eq_false h3] at CN
  go_enter Try.func109, Try.ntmps109
  go_wp2_with ((with_reducible refine so0 ?_ ?_); (focus rfl))
  refine (CN.out _).mono ?_
  rintro e w2 ⟨rfl, rfl⟩
  clear CN
  go_wp2_with fail
  go_ret
  have e : z = false := Bool.eq_false_iff.2 (fun h => by rcases (HR.out.1 h) with ⟨⟨a1, a2, a3⟩, ⟨b1, b2, b3, b4⟩ | ⟨b1, b2, b3, b4⟩ | ⟨b1, b2, b3, b4⟩⟩ <;> omega)
  exact ret_b e BW.out
 rw [decide_eq_true h3] at CN
 obtain ⟨p, hp⟩ : ∃ p, p = q.op := ⟨_, rfl⟩
 rw [← hp] at q0 HR
 clear hp
 by_cases hp : p = 1
 case pos =>
  subst hp
  by_cases hl : q.lim = 0
  ·have HL := Hi hl
   rw [hl] at q22
   by_cases hs : q.sec.l.length = 0
   ·rw [hs] at q21
    clear hl hs
    go_enter Try.func109, Try.ntmps109
    go_wp2_with ((with_reducible refine so0 ?_ ?_); (focus rfl))
    refine (CN.out _).mono ?_
    rintro e w2 ⟨rfl, rfl⟩
    clear CN
    go_wp2_with ((with_reducible refine so0 ?_ ?_); (focus rfl))
    go_wp2_with fail
    go_ret
    have e : z = false := Bool.eq_false_iff.2 (fun h => by have := HL.out; rcases (HR.out.1 h) with ⟨⟨a1, a2, a3⟩, ⟨b1, b2, b3, b4⟩ | ⟨b1, b2, b3, b4⟩ | ⟨b1, b2, b3, b4⟩⟩ <;> omega)
    exact ret_b e BW.out
   have hs2 : ¬ (q.sec.l.length : Int) = 0 := by omega
   clear hl
   go_enter Try.func109, Try.ntmps109
   go_wp2_with ((with_reducible refine so0 ?_ ?_); (focus rfl))
   refine (CN.out _).mono ?_
   rintro e w2 ⟨rfl, rfl⟩
   clear CN
   go_wp2_with ((with_reducible refine so0 ?_ ?_); (focus rfl))
   go_wp2_with fail
   go_ret
   have e : z = false := Bool.eq_false_iff.2 (fun h => by have := HL.out; rcases (HR.out.1 h) with ⟨⟨a1, a2, a3⟩, ⟨b1, b2, b3, b4⟩ | ⟨b1, b2, b3, b4⟩ | ⟨b1, b2, b3, b4⟩⟩ <;> omega)
   exact ret_b e BW.out
  by_cases m1 : 1 ≤ q.lim
  case neg =>
   go_enter Try.func109, Try.ntmps109
   go_wp2_with ((with_reducible refine so0 ?_ ?_); (focus rfl))
   refine (CN.out _).mono ?_
   rintro e w2 ⟨rfl, rfl⟩
   clear CN
   go_wp2_with ((with_reducible refine so0 ?_ ?_); (focus rfl))
   go_wp2_with fail
   go_ret
   have e : z = false := Bool.eq_false_iff.2 (fun h => by rcases (HR.out.1 h) with ⟨⟨a1, a2, a3⟩, ⟨b1, b2, b3, b4⟩ | ⟨b1, b2, b3, b4⟩ | ⟨b1, b2, b3, b4⟩⟩ <;> omega)
   exact ret_b e BW.out
  by_cases m2 : q.lim ≤ 32
  case neg =>
   go_enter Try.func109, Try.ntmps109
   go_wp2_with ((with_reducible refine so0 ?_ ?_); (focus rfl))
   refine (CN.out _).mono ?_
   rintro e w2 ⟨rfl, rfl⟩
   clear CN
   go_wp2_with ((with_reducible refine so0 ?_ ?_); (focus rfl))
   go_wp2_with fail
   go_ret
   have e : z = false := Bool.eq_false_iff.2 (fun h => by rcases (HR.out.1 h) with ⟨⟨a1, a2, a3⟩, ⟨b1, b2, b3, b4⟩ | ⟨b1, b2, b3, b4⟩ | ⟨b1, b2, b3, b4⟩⟩ <;> omega)
   exact ret_b e BW.out
  go_enter Try.func109, Try.ntmps109
  go_wp2_with ((with_reducible refine so0 ?_ ?_); (focus rfl))
  refine (CN.out _).mono ?_
  rintro e w2 ⟨rfl, rfl⟩
  clear CN
  go_wp2_with ((with_reducible refine so0 ?_ ?_); (focus rfl))
  go_wp2_with fail
  go_ret
  have e : z = decide ((q.sec.l.length : Int) ≤ 64) := Bool.eq_iff_iff.2 ⟨fun h => decide_eq_true (by rcases (HR.out.1 h) with ⟨⟨a1, a2, a3⟩, ⟨b1, b2, b3, b4⟩ | ⟨b1, b2, b3, b4⟩ | ⟨b1, b2, b3, b4⟩⟩ <;> omega), fun h => HR.out.2 (by have h5 := of_decide_eq_true h; exact ⟨⟨by omega, by omega, by omega⟩, Or.inl ⟨by first | trivial | omega, by omega, by omega, by omega⟩⟩)⟩
  exact ret_b e BW.out
 by_cases hp : p = 3
 case pos =>
  subst hp
  by_cases hl : q.lim = 0
  ·have HL := Hi hl
   rw [hl] at q22
   by_cases hs : q.sec.l.length = 0
   ·rw [hs] at q21
    clear hl hs
    go_enter Try.func109, Try.ntmps109
    go_wp2_with ((with_reducible refine so0 ?_ ?_); (focus rfl))
    refine (CN.out _).mono ?_
    rintro e w2 ⟨rfl, rfl⟩
    clear CN
    go_wp2_with ((with_reducible refine so0 ?_ ?_); (focus rfl))
    go_wp2_with fail
    go_ret
    have e : z = false := Bool.eq_false_iff.2 (fun h => by have := HL.out; rcases (HR.out.1 h) with ⟨⟨a1, a2, a3⟩, ⟨b1, b2, b3, b4⟩ | ⟨b1, b2, b3, b4⟩ | ⟨b1, b2, b3, b4⟩⟩ <;> omega)
    exact ret_b e BW.out
   have hs2 : ¬ (q.sec.l.length : Int) = 0 := by omega
   clear hl
   go_enter Try.func109, Try.ntmps109
   go_wp2_with ((with_reducible refine so0 ?_ ?_); (focus rfl))
   refine (CN.out _).mono ?_
   rintro e w2 ⟨rfl, rfl⟩
   clear CN
   go_wp2_with ((with_reducible refine so0 ?_ ?_); (focus rfl))
   go_wp2_with fail
   go_ret
   have e : z = false := Bool.eq_false_iff.2 (fun h => by have := HL.out; rcases (HR.out.1 h) with ⟨⟨a1, a2, a3⟩, ⟨b1, b2, b3, b4⟩ | ⟨b1, b2, b3, b4⟩ | ⟨b1, b2, b3, b4⟩⟩ <;> omega)
   exact ret_b e BW.out
  by_cases m1 : 1 ≤ q.lim
  case neg =>
   go_enter Try.func109, Try.ntmps109
   go_wp2_with ((with_reducible refine so0 ?_ ?_); (focus rfl))
   refine (CN.out _).mono ?_
   rintro e w2 ⟨rfl, rfl⟩
   clear CN
   go_wp2_with ((with_reducible refine so0 ?_ ?_); (focus rfl))
   go_wp2_with fail
   go_ret
   have e : z = false := Bool.eq_false_iff.2 (fun h => by rcases (HR.out.1 h) with ⟨⟨a1, a2, a3⟩, ⟨b1, b2, b3, b4⟩ | ⟨b1, b2, b3, b4⟩ | ⟨b1, b2, b3, b4⟩⟩ <;> omega)
   exact ret_b e BW.out
  by_cases m2 : q.lim ≤ 32
  case neg =>
   go_enter Try.func109, Try.ntmps109
   go_wp2_with ((with_reducible refine so0 ?_ ?_); (focus rfl))
   refine (CN.out _).mono ?_
   rintro e w2 ⟨rfl, rfl⟩
   clear CN
   go_wp2_with ((with_reducible refine so0 ?_ ?_); (focus rfl))
   go_wp2_with fail
   go_ret
   have e : z = false := Bool.eq_false_iff.2 (fun h => by rcases (HR.out.1 h) with ⟨⟨a1, a2, a3⟩, ⟨b1, b2, b3, b4⟩ | ⟨b1, b2, b3, b4⟩ | ⟨b1, b2, b3, b4⟩⟩ <;> omega)
   exact ret_b e BW.out
  go_enter Try.func109, Try.ntmps109
  go_wp2_with ((with_reducible refine so0 ?_ ?_); (focus rfl))
  refine (CN.out _).mono ?_
  rintro e w2 ⟨rfl, rfl⟩
  clear CN
  go_wp2_with ((with_reducible refine so0 ?_ ?_); (focus rfl))
  go_wp2_with fail
  go_ret
  have e : z = decide ((q.sec.l.length : Int) ≤ 64) := Bool.eq_iff_iff.2 ⟨fun h => decide_eq_true (by rcases (HR.out.1 h) with ⟨⟨a1, a2, a3⟩, ⟨b1, b2, b3, b4⟩ | ⟨b1, b2, b3, b4⟩ | ⟨b1, b2, b3, b4⟩⟩ <;> omega), fun h => HR.out.2 (by have h5 := of_decide_eq_true h; exact ⟨⟨by omega, by omega, by omega⟩, Or.inl ⟨by first | trivial | omega, by omega, by omega, by omega⟩⟩)⟩
  exact ret_b e BW.out
 by_cases hp : p = 2
 case pos =>
  subst hp
  by_cases hl : q.lim = 0
  case neg =>
   go_enter Try.func109, Try.ntmps109
   go_wp2_with ((with_reducible refine so0 ?_ ?_); (focus rfl))
   refine (CN.out _).mono ?_
   rintro e w2 ⟨rfl, rfl⟩
   clear CN
   go_wp2_with ((with_reducible refine so0 ?_ ?_); (focus rfl))
   go_wp2_with fail
   go_ret
   have e : z = false := Bool.eq_false_iff.2 (fun h => by rcases (HR.out.1 h) with ⟨⟨a1, a2, a3⟩, ⟨b1, b2, b3, b4⟩ | ⟨b1, b2, b3, b4⟩ | ⟨b1, b2, b3, b4⟩⟩ <;> omega)
   exact ret_b e BW.out
  have HL := Hi hl
  rw [hl] at q22
  clear hl
  by_cases hs : q.sec.l.length = 0
  case neg =>
   have hs2 : ¬ (q.sec.l.length : Int) = 0 := by omega
   go_enter Try.func109, Try.ntmps109
   go_wp2_with ((with_reducible refine so0 ?_ ?_); (focus rfl))
   refine (CN.out _).mono ?_
   rintro e w2 ⟨rfl, rfl⟩
   clear CN
   go_wp2_with ((with_reducible refine so0 ?_ ?_); (focus rfl))
   repeat ((with_reducible refine at8 ?_ ?_); (focus (go_simp; done)); go_wp2_with ((with_reducible refine so0 ?_ ?_); (focus rfl)))
   go_wp2_with fail
   go_ret
   have e : z = false := Bool.eq_false_iff.2 (fun h => by rcases (HR.out.1 h) with ⟨⟨a1, a2, a3⟩, ⟨b1, b2, b3, b4⟩ | ⟨b1, b2, b3, b4⟩ | ⟨b1, b2, b3, b4⟩⟩ <;> omega)
   exact ret_b e BW.out
  have HS := Hi hs
  rw [hs] at q21
  clear hs
  go_enter Try.func109, Try.ntmps109
  go_wp2_with ((with_reducible refine so0 ?_ ?_); (focus rfl))
  refine (CN.out _).mono ?_
  rintro e w2 ⟨rfl, rfl⟩
  clear CN
  go_wp2_with ((with_reducible refine so0 ?_ ?_); (focus rfl))
  refine at9 (by go_simp) fun K0 hK => ld_qown _ _ q rfl rfl A0.out (hK _ _ ?_)
  clear hK
  go_wp2_with ((with_reducible refine so0 ?_ ?_); (focus rfl))
  refine at9 (by go_simp) fun K0 hK => wp_build _ _ rfl _ built_z16 (hK _ _ ?_)
  clear hK
  go_wp2_with ((with_reducible refine so0 ?_ ?_); (focus rfl))
  refine at9 (by go_simp) fun K0 hK => wp_eql_dig _ _ _ rfl q.own z16 A0.out.1.ownN rfl rfl rfl (hK _ _ ?_)
  clear hK
  go_wp2_with fail
  go_ret
  have e : z = decide (q.own = z16) := Bool.eq_iff_iff.2 ⟨fun h => by rcases (HR.out.1 h) with ⟨⟨a1, a2, a3⟩, ⟨b1, b2, b3, b4⟩ | ⟨b1, b2, b3, b4⟩ | ⟨b1, b2, b3, b4⟩⟩ <;> first | omega | exact decide_eq_true b3, fun h => HR.out.2 (by have h5 := of_decide_eq_true h; have := HL.out; have := HS.out; refine ⟨by omega, ?_⟩; exact Or.inr (Or.inl ⟨by first | trivial | omega, by omega, h5, by omega⟩))⟩
  exact ret_b e BW.out
 by_cases hp : p = 4
 case pos =>
  subst hp
  by_cases hl : q.lim = 0
  case neg =>
   go_enter Try.func109, Try.ntmps109
   go_wp2_with ((with_reducible refine so0 ?_ ?_); (focus rfl))
   refine (CN.out _).mono ?_
   rintro e w2 ⟨rfl, rfl⟩
   clear CN
   go_wp2_with ((with_reducible refine so0 ?_ ?_); (focus rfl))
   go_wp2_with fail
   go_ret
   have e : z = false := Bool.eq_false_iff.2 (fun h => by rcases (HR.out.1 h) with ⟨⟨a1, a2, a3⟩, ⟨b1, b2, b3, b4⟩ | ⟨b1, b2, b3, b4⟩ | ⟨b1, b2, b3, b4⟩⟩ <;> omega)
   exact ret_b e BW.out
  have HL := Hi hl
  rw [hl] at q22
  clear hl
  by_cases hs : q.sec.l.length = 0
  case neg =>
   have hs2 : ¬ (q.sec.l.length : Int) = 0 := by omega
   go_enter Try.func109, Try.ntmps109
   go_wp2_with ((with_reducible refine so0 ?_ ?_); (focus rfl))
   refine (CN.out _).mono ?_
   rintro e w2 ⟨rfl, rfl⟩
   clear CN
   go_wp2_with ((with_reducible refine so0 ?_ ?_); (focus rfl))
   repeat ((with_reducible refine at8 ?_ ?_); (focus (go_simp; done)); go_wp2_with ((with_reducible refine so0 ?_ ?_); (focus rfl)))
   go_wp2_with fail
   go_ret
   have e : z = false := Bool.eq_false_iff.2 (fun h => by rcases (HR.out.1 h) with ⟨⟨a1, a2, a3⟩, ⟨b1, b2, b3, b4⟩ | ⟨b1, b2, b3, b4⟩ | ⟨b1, b2, b3, b4⟩⟩ <;> omega)
   exact ret_b e BW.out
  have HS := Hi hs
  rw [hs] at q21
  clear hs
  go_enter Try.func109, Try.ntmps109
  go_wp2_with ((with_reducible refine so0 ?_ ?_); (focus rfl))
  refine (CN.out _).mono ?_
  rintro e w2 ⟨rfl, rfl⟩
  clear CN
  go_wp2_with ((with_reducible refine so0 ?_ ?_); (focus rfl))
  refine at9 (by go_simp) fun K0 hK => ld_qpin _ _ q rfl rfl A0.out (hK _ _ ?_)
  clear hK
  go_wp2_with ((with_reducible refine so0 ?_ ?_); (focus rfl))
  refine at9 (by go_simp) fun K0 hK => wp_build _ _ rfl _ built_z16 (hK _ _ ?_)
  clear hK
  go_wp2_with ((with_reducible refine so0 ?_ ?_); (focus rfl))
  refine at9 (by go_simp) fun K0 hK => wp_eql_dig _ _ _ rfl q.pin z16 A0.out.1.pinN rfl rfl rfl (hK _ _ ?_)
  clear hK
  go_wp2_with fail
  go_ret
  have e : z = decide (q.pin = z16) := Bool.eq_iff_iff.2 ⟨fun h => by rcases (HR.out.1 h) with ⟨⟨a1, a2, a3⟩, ⟨b1, b2, b3, b4⟩ | ⟨b1, b2, b3, b4⟩ | ⟨b1, b2, b3, b4⟩⟩ <;> first | omega | exact decide_eq_true b3, fun h => HR.out.2 (by have h5 := of_decide_eq_true h; have := HL.out; have := HS.out; refine ⟨by omega, ?_⟩; exact Or.inr (Or.inr ⟨by first | trivial | omega, by omega, h5, by omega⟩))⟩
  exact ret_b e BW.out
 by_cases hl : q.lim = 0
 ·rw [hl] at q22
  clear hl
  by_cases hs : q.sec.l.length = 0
  ·rw [hs] at q21
   clear hs
   go_enter Try.func109, Try.ntmps109
   go_wp2_with ((with_reducible refine so0 ?_ ?_); (focus rfl))
   refine (CN.out _).mono ?_
   rintro e w2 ⟨rfl, rfl⟩
   clear CN
   go_wp2_with ((with_reducible refine so0 ?_ ?_); (focus rfl))
   go_wp2_with fail
   go_ret
   have e : z = false := Bool.eq_false_iff.2 (fun h => by rcases (HR.out.1 h) with ⟨⟨a1, a2, a3⟩, ⟨b1, b2, b3, b4⟩ | ⟨b1, b2, b3, b4⟩ | ⟨b1, b2, b3, b4⟩⟩ <;> omega)
   exact ret_b e BW.out
  have hs2 : ¬ (q.sec.l.length : Int) = 0 := by omega
  go_enter Try.func109, Try.ntmps109
  go_wp2_with ((with_reducible refine so0 ?_ ?_); (focus rfl))
  refine (CN.out _).mono ?_
  rintro e w2 ⟨rfl, rfl⟩
  clear CN
  go_wp2_with ((with_reducible refine so0 ?_ ?_); (focus rfl))
  go_wp2_with fail
  go_ret
  have e : z = false := Bool.eq_false_iff.2 (fun h => by rcases (HR.out.1 h) with ⟨⟨a1, a2, a3⟩, ⟨b1, b2, b3, b4⟩ | ⟨b1, b2, b3, b4⟩ | ⟨b1, b2, b3, b4⟩⟩ <;> omega)
  exact ret_b e BW.out
 go_enter Try.func109, Try.ntmps109
 go_wp2_with ((with_reducible refine so0 ?_ ?_); (focus rfl))
 refine (CN.out _).mono ?_
 rintro e w2 ⟨rfl, rfl⟩
 clear CN
 go_wp2_with ((with_reducible refine so0 ?_ ?_); (focus rfl))
 go_wp2_with fail
 go_ret
 have e : z = false := Bool.eq_false_iff.2 (fun h => by rcases (HR.out.1 h) with ⟨⟨a1, a2, a3⟩, ⟨b1, b2, b3, b4⟩ | ⟨b1, b2, b3, b4⟩ | ⟨b1, b2, b3, b4⟩⟩ <;> omega)
 exact ret_b e BW.out
end Go.Proofs.Ytmjfnpmnhehnkaa
namespace Go.Proofs.Ytmjfnpmnhehnkaa
open Go.RowKit
/-- blocks below B, and those of types that are not in S, are as they were -/
structure Kt (S : List Nat) (B : Nat) (w w' : World) : Prop where
 below : Below B w w'
 typ : ∀ (h : Nat) (cs : Array Value) (t : TypeId) (fr : Nat × Nat), w.heap[h]? = some (.cells cs t fr) → t ∉ S → w'.heap[h]? = some (.cells cs t fr)
theorem Kt.size {S : List Nat} {B : Nat} {w w' : World} (h : Kt S B w w') : w.heap.size ≤ w'.heap.size := h.below.size
theorem Kt.refl (S : List Nat) (B : Nat) (w : World) : Kt S B w w := ⟨Below.refl _ _, fun _ _ _ _ h _ => h⟩
theorem Kt.trans {S : List Nat} {B : Nat} {a b c : World} (h : Kt S B a b) (k : Kt S B b c) : Kt S B a c := ⟨h.below.trans k.below, fun i cs t fr hi h1 => k.typ i cs t fr (h.typ i cs t fr hi h1) h1⟩
theorem Kt.mono {S S' : List Nat} {B : Nat} {a b : World} (h : Kt S B a b) (hs : ∀ x ∈ S, x ∈ S') : Kt S' B a b := ⟨h.below, fun i cs t fr hi h1 => h.typ i cs t fr hi (fun hx => h1 (hs _ hx))⟩
theorem blk_lt {w : World} {g : Nat} {o : Obj} (h : w.heap[g]? = some o) : g < w.heap.size := (Array.getElem?_eq_some_iff.1 h).1
theorem Ex.kt {S : List Nat} {B : Nat} {w w' : World} (h : Ex w w') (hB : B ≤ w.heap.size) : Kt S B w w' := ⟨h.mono hB, fun i _ _ _ hi _ => (h.block i (blk_lt hi)).trans hi⟩
theorem Kt.bk {S : List Nat} {B g : Nat} {w w' : World} {t : TypeId} {cs : Array Value} (h : Kt S B w w') (hb : Bk w g t cs) (ht : t ∉ S) : Bk w' g t cs := h.typ _ _ _ _ hb ht
theorem Kt.grown {w w' : World} {B : Nat} {e : TypeId} {sz n : Nat} {v : Value} {xs : List Value} (h : w.ownsRow B e sz v n xs) (k : w.grownBy w' v.ownBlock) (hB : B ≤ w.heap.size) : Kt [e] B w w' := by
 refine ⟨(Below.refl B w).grown k hB (fun j hj => (h.lt j hj).1), fun i cs t fr hi h1 => (k.block i (blk_lt hi) ?_).trans hi⟩
 intro he
 obtain ⟨_, ⟨hv, _⟩ | ⟨g, cap, cur, hv, _, hg, _⟩⟩ := h
 ·rw [hv] at he; cases he
 rw [hv] at he
 obtain rfl : i = g := by simpa [Value.ownBlock] using he
 rw [hg] at hi
 injection hi with hi
 injection hi with _ h2
 exact h1 (by rw [← h2]; exact List.mem_singleton.2 rfl)
theorem Kt.md {S : List Nat} {B g : Nat} {w w' : World} {t : TypeId} {cs : Array Value} (k : Md g w w') (hg : B ≤ g) (hb : Bk w g t cs) (ht : t ∈ S) : Kt S B w w' :=
 ⟨k.below B hg _ (Below.refl _ _), fun i cs' t' fr hi h1 => by
  refine (k.other i ?_ (blk_lt hi)).trans hi
  rintro rfl
  unfold Bk at hb
  rw [hb] at hi
  injection hi with hi
  injection hi with _ hi
  exact h1 (by rw [← hi]; exact ht)⟩
theorem Kt.row {S : List Nat} {B B' : Nat} {w w' : World} {e : TypeId} {sz n : Nat} {v : Value} {xs : List Value} (k : Kt S B w w') (h : w.ownsRow B' e sz v n xs) (he : e ∉ S) : w'.ownsRow B' e sz v n xs := by
 refine ⟨h.1, h.2.imp id fun ⟨g, cap, cur, hv, hb, hg, hr⟩ => ⟨g, cap, cur, hv, hb, k.typ _ _ _ _ hg he, hr⟩⟩
theorem Ex.row {B' : Nat} {w w' : World} {e : TypeId} {sz n : Nat} {v : Value} {xs : List Value} (k : Ex w w') (h : w.ownsRow B' e sz v n xs) : w'.ownsRow B' e sz v n xs :=
 (Ex.kt (S := []) (B := 0) k (Nat.zero_le _)).row h (by simp)
/-- what is claimed of a value, stable where blocks of other types than its own are turned -/
structure Rv (B : Nat) where
 ty : Nat
 holds : Value → World → Prop
 stab : ∀ S v w w', holds v w → Kt S B w w' → ty ∉ S → holds v w'
def Rv.is {B : Nat} (x : Value) : Rv B := ⟨0, fun v _ => v = x, fun _ _ _ _ h _ _ => h⟩
def Rv.any {B : Nat} : Rv B := ⟨0, fun _ _ => True, fun _ _ _ _ _ _ _ => trivial⟩
def Rv.own {B : Nat} (e : TypeId) (sz n : Nat) (xs : List Value) : Rv B := ⟨e, fun v w => w.ownsRow B e sz v n xs, fun _ _ _ _ h k hs => k.row h hs⟩
theorem set_falseR {l : Array Bool} {i k : Nat} (h : (l.setIfInBounds i true).getD k false = false) : l.getD k false = false := by
 by_cases e : i = k
 ·subst e
  rw [Array.getD_eq_getD_getElem?] at h ⊢
  by_cases hi : i < l.size
  ·rw [Array.getElem?_setIfInBounds_self_of_lt hi] at h; cases h
  rw [Array.getElem?_eq_none (by omega)]; rfl
 rw [gset e false] at h; exact h
structure JR (B : Nat) (base : World) (S : List Nat) (T : List (Rv B)) (tys : List Nat) (cons : List (Option Nat)) (prs : List (Nat × Nat)) (listed : Array Bool) (f : Nat → Value) (w : World) : Prop where
 lo : B ≤ w.heap.size
 ext : Kt S B base w
 vals : ∀ i, listed.getD i false = true → (∀ c, cons.getD i none = some c → listed.getD c false = false) → (T.getD i .any).holds (f i) w
 ord : ∀ x ∈ prs, listed.getD x.1 false = true → listed.getD x.2 false = true
theorem JR.start {B : Nat} {base : World} {S : List Nat} {T : List (Rv B)} {tys : List Nat} {cons : List (Option Nat)} {prs : List (Nat × Nat)} (hB : B ≤ base.heap.size) (listed : Array Bool) (f : Nat → Value) (h0 : ∀ i, listed.getD i false = false) : JR B base S T tys cons prs listed f base.drew :=
 ⟨hB, Ex.kt (show Ex base base.drew from (Below.refl base.heap.size base).drew) hB, fun i hi => absurd hi (by rw [h0 i]; decide), fun x _ hx => absurd hx (by rw [h0 x.1]; decide)⟩
theorem JR.next {B : Nat} {base : World} {S : List Nat} {T : List (Rv B)} {tys : List Nat} {cons : List (Option Nat)} {prs : List (Nat × Nat)} {listed : Array Bool} {f : Nat → Value} {w w' : World} (h : JR B base S T tys cons prs listed f w)
  (hty : T.map Rv.ty = tys) {i : Nat} (hi : i < listed.size) {v : Value} (S' : List Nat) (hS : ∀ x ∈ S', x ∈ S) (h0 : 0 ∉ S') (k : Kt S' B w w') (hv : (T.getD i .any).holds v w')
  (hc : ∀ j, j ≠ i → tys.getD j 0 ∈ S' → listed.getD j false = true → ∃ c, cons.getD j none = some c ∧ (c = i ∨ listed.getD c false = true))
  (ho : ∀ x ∈ prs, x.1 = i → listed.getD x.2 false = true) : JR B base S T tys cons prs (listed.setIfInBounds i true) (upd f i v) w' := by
 have new : (listed.setIfInBounds i true).getD i false = true := by
  rw [Array.getD_eq_getD_getElem?, Array.getElem?_setIfInBounds_self_of_lt hi]; rfl
 have mono : ∀ c, listed.getD c false = true → (listed.setIfInBounds i true).getD c false = true := fun c hc => by
  by_cases e : i = c
  ·subst e; exact new
  ·rw [gset e false]; exact hc
 refine ⟨Nat.le_trans h.lo k.size, h.ext.trans (k.mono hS), fun j hj hcj => ?_, fun x hx h1 => ?_⟩
 ·by_cases e : j = i
  ·subst e; rw [upd_same]; exact hv
  rw [upd_ne _ _ e]
  have hj' : listed.getD j false = true := by
   rcases listed_set hj with rfl | hj
   ·exact absurd rfl e
   ·exact hj
  have hold := h.vals j hj' (fun c hcc => set_falseR (hcj c hcc))
  refine (T.getD j .any).stab S' _ _ _ hold k ?_
  have ht : (T.getD j .any).ty = tys.getD j 0 := by
   rw [← hty, List.getD_eq_getElem?_getD, List.getD_eq_getElem?_getD, List.getElem?_map]
   cases T[j]? <;> rfl
  rw [ht]
  intro hin
  obtain ⟨c, hcc, hci⟩ := hc j e hin hj'
  have := hcj c hcc
  rcases hci with rfl | hci
  ·rw [new] at this; cases this
  rw [mono c hci] at this; cases this
 rcases listed_set h1 with e | h1
 ·exact mono _ (ho x hx e)
 exact mono _ (h.ord x hx h1)
theorem JR.plain {B : Nat} {base : World} {S : List Nat} {T : List (Rv B)} {tys : List Nat} {cons : List (Option Nat)} {prs : List (Nat × Nat)} {listed : Array Bool} {f : Nat → Value} {w w' : World} (h : JR B base S T tys cons prs listed f w)
  (hty : T.map Rv.ty = tys) {i : Nat} (hi : i < listed.size) {v : Value} (k : Ex w w') (hv : (T.getD i .any).holds v w')
  (ho : ∀ x ∈ prs, x.1 = i → listed.getD x.2 false = true) : JR B base S T tys cons prs (listed.setIfInBounds i true) (upd f i v) w' :=
 h.next hty hi [] (by simp) (by simp) (k.kt h.lo) hv (by simp) ho
/-- append to a row that is one's own -/
theorem wp_rapp {o : Oper} {a : Act} {w : World} {K : Act → World → Prop} {Q : Exit → Act → World → Prop} (s x : Operand) (t e : TypeId) (z : Value) (sz bytes : Nat)
  (hop : o.op = .call { callee := .builtin .append, args := #[s, x], argTypes := #[t, t] }) (hu : Try.prog.underlying t = some (.slice e))
  (hinfo : (Try.prog.info? e).map (fun i => (i.zero, i.size, i.bytes)) = some (some z, sz, bytes)) (hz : z.cells.size = sz) (hp : 0 < sz)
  (B n : Nat) (v : Value) (xs : List Value) (hs : a.eval s = v) (hown : w.ownsRow B e sz v n xs) (hB : B ≤ w.heap.size)
  (ad : Option Addr) (m c : Nat) (ys : List Value) (hx : a.eval x = .slice ad m c) (hl : ys.length = m * sz) (hnil : ad = none → c = 0 ∧ m = 0)
  (hr : ∀ A, ad = some A → ∀ j u, ys[j]? = some u → w.cell? (A.add j) = some u) (h1 : ∀ u ∈ ys, u.oneCell' = true)
  (hN : n + m ≤ 9223372036854775807) (hby : (n + m) * bytes ≤ 140737488355328)
  (h : ∀ v' w', w'.ownsRow B e sz v' (n + m) (xs ++ ys) → Kt [e] B w w' → (v = .slice none 0 0 → Ex w w') → K (a.put o.dst v') w') : o.wp Try.prog a w K Q := by
 obtain ⟨i0, hi0, hz0, hz1, hz2⟩ := info_parts hinfo
 have key : ∃ v' w', (Builtin.append_ #[t, t] o.type #[v, .slice ad m c]).run Try.prog w = .ok v' w' ∧ w'.ownsRow B e sz v' (n + m) (xs ++ ys) ∧ Kt [e] B w w' ∧ (v = .slice none 0 0 → Ex w w') := by
  cases had : ad with
  | none =>
   obtain ⟨rfl, rfl⟩ := hnil had
   obtain rfl : ys = [] := List.eq_nil_of_length_eq_zero (by rw [hl]; exact Nat.zero_mul _)
   refine ⟨v, w, run_append_owned_none w B t o.type e i0 sz hu hi0 v n xs hown, ?_, Kt.refl _ _ _, fun _ => Ex.refl _⟩
   rw [List.append_nil]; exact hown
  | some A =>
   obtain ⟨v', w', hrun, r1, r2, _⟩ := run_append_own (P := Try.prog) w B t o.type e i0 z sz bytes hu hi0 hz0 hz1 hz2 hz hp v n xs hown A m c ys hl (hr A had) h1 hN hby hB
   exact ⟨v', w', hrun, r1, Kt.grown hown r2 hB, fun hv => (Below.refl _ _).grown r2 (Nat.le_refl _) (fun k hk => by rw [hv] at hk; cases hk)⟩
 obtain ⟨v', w', hrun, r1, r2, r3⟩ := key
 unfold Oper.wp
 simp [execOp, hop, resolve, invoke, builtin, hs, hx, hrun, Result.andThen]
 exact h v' w' r1 r2 r3
end Go.Proofs.Ytmjfnpmnhehnkaa
namespace Go.Proofs.Ytmjfnpmnhehnkaa
open Go.RowKit
/-- n elements that are read, cells ys -/
structure Rd (w : World) (ad : Option Addr) (n sz : Nat) (ys : List Value) : Prop where
 len : ys.length = n * sz
 read : 0 < n → ∃ a o, ad = some ⟨a, o, none⟩ ∧ a < w.heap.size ∧ ∀ j u, ys[j]? = some u → w.cell? ⟨a, o + j, none⟩ = some u
theorem Rd.ext {w w' : World} {ad : Option Addr} {n sz : Nat} {ys : List Value} (h : Rd w ad n sz ys) (k : Ex w w') : Rd w' ad n sz ys := ⟨h.len, fun h0 => by
 obtain ⟨a, o, e, hl, hc⟩ := h.read h0
 exact ⟨a, o, e, Nat.lt_of_lt_of_le hl k.size, fun j u hu => (Below.cell (p := ⟨a, o + j, none⟩) k hl).trans (hc j u hu)⟩⟩
theorem Rd.at {w : World} {ad : Option Addr} {n sz : Nat} {ys : List Value} (h : Rd w ad n sz ys) (A : Addr) (hA : ad = some A) (j : Nat) (u : Value) (hu : ys[j]? = some u) : w.cell? (A.add j) = some u := by
 have h0 : 0 < n := by
  rcases Nat.eq_zero_or_pos n with h0 | h0
  ·have := (List.getElem?_eq_some_iff.1 hu).1
   rw [h.len, h0, Nat.zero_mul] at this; omega
  ·exact h0
 obtain ⟨a, o, e, hl, hc⟩ := h.read h0
 rw [e] at hA; cases hA
 rw [Addr.add_lit]
 exact hc j u hu
theorem own_rd {w : World} {B : Nat} {e : TypeId} {sz n : Nat} {v : Value} {xs : List Value} (h : w.ownsRow B e sz v n xs) : ∃ ad cap, v = .slice ad n cap ∧ (ad = none → cap = 0) ∧ n ≤ cap ∧ cap ≤ 9223372036854775807 ∧ Rd w ad n sz xs := by
 obtain ⟨h1, ⟨hv, h0⟩ | ⟨g, cap, cur, rfl, hb, hh, hc, hm, hs, ht⟩⟩ := h
 ·exact ⟨none, 0, by rw [h0]; exact hv, fun _ => rfl, by omega, by omega, ⟨h1, fun h => by omega⟩⟩
 refine ⟨some ⟨g, 0, none⟩, cap, rfl, (fun h => by cases h), hc, by simpa [maxLen] using hm, ⟨h1, fun _ => ⟨g, 0, rfl, (show Bk w g e cur from hh).lt, fun j u hu => ?_⟩⟩⟩
 rw [(show Bk w g e cur from hh).cell, Nat.zero_add, ← Array.getElem?_toList]
 rw [← ht, List.getElem?_take] at hu
 split at hu
 ·exact hu
 cases hu
theorem Rd.take {w : World} {ad : Option Addr} {n sz cap : Nat} {ys : List Value} (h : Rd w ad n sz ys) (hnil : ad = none → cap = 0) (hc : n ≤ cap) (k : Nat) (hk : k ≤ n) :
  ∃ ad', sliced ad 0 k cap sz = .slice ad' k cap ∧ (ad' = none → cap = 0) ∧ Rd w ad' k sz (ys.take (k * sz)) := by
 have hl : (ys.take (k * sz)).length = k * sz := by
  rw [List.length_take, h.len]
  exact Nat.min_eq_left (Nat.mul_le_mul_right _ hk)
 cases ad with
 | none =>
  have := hnil rfl
  exact ⟨none, by unfold sliced; simp, fun _ => this, ⟨hl, fun h => by omega⟩⟩
 | some A =>
  by_cases h0 : 0 < k
  ·obtain ⟨a, o, e, hla, hr⟩ := h.read (by omega)
   cases e
   refine ⟨some ⟨a, o, none⟩, by unfold sliced; rw [if_neg (by omega), Option.map_some, Nat.zero_mul, Addr.add_lit]; rfl, (fun h => by cases h), ⟨hl, fun _ => ⟨a, o, rfl, hla, fun j u hu => hr j u ?_⟩⟩⟩
   rw [List.getElem?_take] at hu
   split at hu
   ·exact hu
   ·cases hu
  ·obtain rfl : k = 0 := by omega
   refine ⟨_, rfl, fun hn => ?_, ⟨hl, fun h => absurd h (Nat.lt_irrefl 0)⟩⟩
   split at hn <;> simp at hn
theorem Rd.drop {w : World} {ad : Option Addr} {n sz cap : Nat} {ys : List Value} (h : Rd w ad n sz ys) (hnil : ad = none → cap = 0) (hc : n ≤ cap) (k : Nat) (hk : k ≤ n) :
  ∃ ad', sliced ad k n cap sz = .slice ad' (n - k) (cap - k) ∧ (ad' = none → cap - k = 0) ∧ Rd w ad' (n - k) sz (ys.drop (k * sz)) := by
 have hl : (ys.drop (k * sz)).length = (n - k) * sz := by
  rw [List.length_drop, h.len, Nat.sub_mul]
 cases ad with
 | none =>
  have := hnil rfl
  exact ⟨none, by unfold sliced; simp, fun _ => by omega, ⟨hl, fun h => by omega⟩⟩
 | some A =>
  by_cases h0 : k < n
  ·obtain ⟨a, o, e, hla, hr⟩ := h.read (by omega)
   cases e
   refine ⟨some ⟨a, o + k * sz, none⟩, by unfold sliced; rw [if_neg (by omega), Option.map_some, Addr.add_lit], (fun h => by cases h), ⟨hl, fun _ => ⟨a, o + k * sz, rfl, hla, fun j u hu => ?_⟩⟩⟩
   rw [List.getElem?_drop] at hu
   rw [Nat.add_assoc]
   exact hr _ u hu
  ·obtain rfl : k = n := by omega
   refine ⟨_, rfl, fun hn => ?_, ⟨hl, fun h => by omega⟩⟩
   split at hn <;> simp at hn
section
variable {o : Oper} {a : Act} {w : World} {K : Act → World → Prop} {Q : Exit → Act → World → Prop}
set_option maxRecDepth 100000 in
theorem wp_sl_h (t : TypeId) (x h : Operand) (hop : o.op = .slice t x none (some h) none) (ht : Try.prog.underlying t = some (.slice (Try.prog.elem t))) (sz : Nat) (hs : ∀ w, (sizeOf (Try.prog.elem t)).run Try.prog w = .ok sz w)
  (ad : Option Addr) (n cap k : Nat) (hx : a.eval x = .slice ad n cap) (hh : a.eval h = .int .i64 k) (hk : k ≤ cap) (hK : K (a.put o.dst (sliced ad 0 k cap sz)) w) : o.wp Try.prog a w K Q := by
 have hr := run_slice_h (P := Try.prog) (w := w) t ad n cap ht .i64 (k : Int) (by omega) (by omega)
 rw [hs, Int.toNat_natCast] at hr
 unfold Oper.wp
 obtain ⟨ev, hev⟩ : ∃ ev, ev = a.eval := ⟨_, rfl⟩
 rw [← hev] at hx hh ⊢
 clear hev
 unfold execOp
 simp only [hop]
 simp [hx, hh, go_sem, run_sliceAt_slice (P := Try.prog) _ t _ _ _ _ ht, hr, Result.andThen]
 rw [show sliced ad 0 k cap sz = .slice ad k cap from by simp [sliced, go_sem]] at hK
 exact hK
set_option maxRecDepth 100000 in
theorem wp_sl_l (t : TypeId) (x l : Operand) (hop : o.op = .slice t x (some l) none none) (ht : Try.prog.underlying t = some (.slice (Try.prog.elem t))) (sz : Nat) (hs : ∀ w, (sizeOf (Try.prog.elem t)).run Try.prog w = .ok sz w)
  (ad : Option Addr) (n cap k : Nat) (hx : a.eval x = .slice ad n cap) (hl : a.eval l = .int .i64 k) (hk : k ≤ n) (hK : K (a.put o.dst (sliced ad k n cap sz)) w) : o.wp Try.prog a w K Q := by
 have hr := run_slice_l (P := Try.prog) (w := w) t ad n cap ht .i64 (k : Int) (by omega) (by omega)
 rw [hs, Int.toNat_natCast] at hr
 unfold Oper.wp
 obtain ⟨ev, hev⟩ : ∃ ev, ev = a.eval := ⟨_, rfl⟩
 rw [← hev] at hx hl ⊢
 clear hev
 unfold execOp
 simp only [hop]
 simp [hx, hl, go_sem, run_sliceAt_slice (P := Try.prog) _ t _ _ _ _ ht, hr, Result.andThen]
 exact hK
end
/-- a row without room that has no element -/
def Emp (B : Nat) (w : World) (e : TypeId) (v : Value) : Prop := ∃ g, v = .slice (some ⟨g, 0, none⟩) 0 0 ∧ B ≤ g ∧ Bk w g e #[]
theorem Emp.own {B : Nat} {w : World} {e : TypeId} {v : Value} (h : Emp B w e v) (sz : Nat) : w.ownsRow B e sz v 0 [] := by
 obtain ⟨g, rfl, hB, hb⟩ := h
 exact ⟨by simp, .inr ⟨g, 0, #[], rfl, hB, hb, Nat.le_refl _, by decide, by simp, by simp⟩⟩
def One (w : World) (e : TypeId) (cs : List Value) (v : Value) : Prop := ∃ g, v = .slice (some ⟨g, 0, none⟩) 1 1 ∧ Bk w g e cs.toArray
def Rv.emp {B : Nat} (e : TypeId) : Rv B := ⟨e, fun v w => Emp B w e v, fun _ _ _ _ ⟨g, h1, h2, h3⟩ k hs => ⟨g, h1, h2, k.bk h3 hs⟩⟩
def Rv.one {B : Nat} (e : TypeId) (cs : List Value) : Rv B := ⟨e, fun v w => One w e cs v, fun _ _ _ _ ⟨g, h1, h2⟩ k hs => ⟨g, h1, k.bk h2 hs⟩⟩
theorem One.rd {w : World} {e : TypeId} {cs : List Value} {v : Value} (h : One w e cs v) : ∃ ad, v = .slice ad 1 1 ∧ (ad = none → 1 = 0) ∧ Rd w ad 1 cs.length cs := by
 obtain ⟨g, rfl, hb⟩ := h
 refine ⟨_, rfl, (fun h => by cases h), ⟨by omega, fun _ => ⟨g, 0, rfl, hb.lt, fun j u hu => ?_⟩⟩⟩
 rw [Nat.zero_add, hb.cell]; simpa using hu
section
variable {o : Oper} {a : Act} {w : World} {K : Act → World → Prop} {Q : Exit → Act → World → Prop}
theorem wp_rd (s x : Operand) (t e : TypeId) (z : Value) (sz bytes : Nat)
  (hop : o.op = .call { callee := .builtin .append, args := #[s, x], argTypes := #[t, t] }) (hu : Try.prog.underlying t = some (.slice e))
  (hinfo : (Try.prog.info? e).map (fun i => (i.zero, i.size, i.bytes)) = some (some z, sz, bytes)) (hz : z.cells.size = sz) (hp : 0 < sz)
  (B n : Nat) (v : Value) (xs : List Value) (hs : a.eval s = v) (hown : w.ownsRow B e sz v n xs) (hB : B ≤ w.heap.size)
  (ad : Option Addr) (m c : Nat) (ys : List Value) (hx : a.eval x = .slice ad m c) (hrd : Rd w ad m sz ys) (hc : m ≤ c) (hnil : ad = none → c = 0) (h1 : ∀ u ∈ ys, u.oneCell' = true)
  (hN : n + m ≤ 9223372036854775807) (hby : (n + m) * bytes ≤ 140737488355328)
  (h : ∀ v' w', w'.ownsRow B e sz v' (n + m) (xs ++ ys) → Kt [e] B w w' → K (a.put o.dst v') w') : o.wp Try.prog a w K Q :=
 wp_rapp s x t e z sz bytes hop hu hinfo hz hp B n v xs hs hown hB ad m c ys hx hrd.len (fun hn => by have := hnil hn; exact ⟨this, by omega⟩) hrd.at h1 hN hby fun v' w' r1 r2 _ => h v' w' r1 r2
/-- append to an empty row without room: a new row, no old block is touched -/
theorem wp_rd0 (s x : Operand) (t e : TypeId) (z : Value) (sz bytes : Nat)
  (hop : o.op = .call { callee := .builtin .append, args := #[s, x], argTypes := #[t, t] }) (hu : Try.prog.underlying t = some (.slice e))
  (hinfo : (Try.prog.info? e).map (fun i => (i.zero, i.size, i.bytes)) = some (some z, sz, bytes)) (hz : z.cells.size = sz) (hp : 0 < sz)
  (B : Nat) (v : Value) (hs : a.eval s = v) (hown : Emp B w e v) (hB : B ≤ w.heap.size)
  (ad : Option Addr) (m c : Nat) (ys : List Value) (hx : a.eval x = .slice ad m c) (hrd : Rd w ad m sz ys) (hc : m ≤ c) (hnil : ad = none → c = 0) (h1 : ∀ u ∈ ys, u.oneCell' = true)
  (hN : m ≤ 9223372036854775807) (hby : m * bytes ≤ 140737488355328)
  (h : ∀ v' w', w'.ownsRow B e sz v' m ys → Ex w w' → K (a.put o.dst v') w') : o.wp Try.prog a w K Q := by
 obtain ⟨i0, hi0, hz0, hz1, hz2⟩ := info_parts hinfo
 have ho := hown.own sz
 have key : ∃ v' w', (Builtin.append_ #[t, t] o.type #[v, .slice ad m c]).run Try.prog w = .ok v' w' ∧ w'.ownsRow B e sz v' m ys ∧ Ex w w' := by
  by_cases h0 : 0 < m
  ·obtain ⟨b, oo, rfl, _, _⟩ := hrd.read h0
   obtain ⟨g, rfl, hg, hb⟩ := hown
   obtain ⟨v', w', hrun, r1, r2⟩ := run_append_arg_grows (P := Try.prog) w t o.type e i0 z sz bytes hu hi0 hz0 hz1 hz2 hz hp ⟨g, 0, none⟩ 0 0 [] (by simp) (by simp) ⟨b, oo, none⟩ m c ys hrd.len (hrd.at _ rfl) (by omega) (by unfold maxLen; omega) (by rw [Nat.zero_add]; exact hby)
   refine ⟨v', w', hrun, ?_, (Below.refl _ _).grown r2 (Nat.le_refl _) (fun k hk => by cases hk)⟩
   rw [Nat.zero_add, List.nil_append] at r1
   exact ⟨r1.1, r1.2.imp id fun ⟨g, cap, cur, hv, hb, hr⟩ => ⟨g, cap, cur, hv, Nat.le_trans hB hb, hr⟩⟩
  ·obtain rfl : m = 0 := by omega
   obtain rfl : ys = [] := List.eq_nil_of_length_eq_zero (by rw [hrd.len, Nat.zero_mul])
   cases ad with
   | none =>
    have := hnil rfl
    subst this
    exact ⟨v, w, run_append_owned_none w B t o.type e i0 sz hu hi0 v 0 [] ho, ho, Ex.refl _⟩
   | some A =>
    obtain ⟨g, rfl, hg, hb⟩ := hown
    refine ⟨.slice (some ⟨g, 0, none⟩) 0 0, w, ?_, ho, Ex.refl _⟩
    simp [Builtin.append_, run_underlying hu, sizeOf, typeInfo, hi0, Builtin.lenOf, Builtin.firstCells, storeCells, loadCells, loadCellsFrom, World.cells?]
 obtain ⟨v', w', hrun, r1, r2⟩ := key
 unfold Oper.wp
 simp [execOp, hop, resolve, invoke, builtin, hs, hx, hrun, Result.andThen]
 exact h v' w' r1 r2
end
theorem rown_less {w : World} {B B' : Nat} {e : TypeId} {sz n : Nat} {v : Value} {xs : List Value} (h : w.ownsRow B e sz v n xs) (k : B' ≤ B) : w.ownsRow B' e sz v n xs :=
 ⟨h.1, h.2.imp id fun ⟨g, cap, cur, hv, hb, hr⟩ => ⟨g, cap, cur, hv, Nat.le_trans k hb, hr⟩⟩
end Go.Proofs.Ytmjfnpmnhehnkaa
namespace Go.Proofs.Ytmjfnpmnhehnkaa
open Go.RowKit
structure Rw (B : Nat) where
 tys : List Nat
 holds : Value → World → Prop
 stab : ∀ S v w w', holds v w → Kt S B w w' → (∀ t ∈ tys, t ∉ S) → holds v w'
def Rw.is {B : Nat} (x : Value) : Rw B := ⟨[], fun v _ => v = x, fun _ _ _ _ h _ _ => h⟩
def Rw.any {B : Nat} : Rw B := ⟨[], fun _ _ => True, fun _ _ _ _ _ _ _ => trivial⟩
def Rw.own {B : Nat} (e : TypeId) (sz n : Nat) (xs : List Value) : Rw B := ⟨[e], fun v w => w.ownsRow B e sz v n xs, fun _ _ _ _ h k hs => k.row h (hs e (List.mem_singleton.2 rfl))⟩
def Rw.emp {B : Nat} (e : TypeId) : Rw B := ⟨[e], fun v w => Emp B w e v, fun _ _ _ _ ⟨g, h1, h2, h3⟩ k hs => ⟨g, h1, h2, k.bk h3 (hs e (List.mem_singleton.2 rfl))⟩⟩
/-- a row of n elements that fills its block -/
def Many (w : World) (e : TypeId) (n : Nat) (cs : List Value) (v : Value) : Prop := ∃ g, v = .slice (some ⟨g, 0, none⟩) n n ∧ Bk w g e cs.toArray
def Rw.many {B : Nat} (e : TypeId) (n : Nat) (cs : List Value) : Rw B := ⟨[e], fun v w => Many w e n cs v, fun _ _ _ _ ⟨g, h1, h2⟩ k hs => ⟨g, h1, k.bk h2 (hs e (List.mem_singleton.2 rfl))⟩⟩
/-- a place in such a block -/
def Rw.ptr {B : Nat} (e : TypeId) (o : Nat) (cs : List Value) : Rw B := ⟨[e], fun v w => ∃ g, v = .pointer (some ⟨g, o, none⟩) ∧ Bk w g e cs.toArray, fun _ _ _ _ ⟨g, h1, h2⟩ k hs => ⟨g, h1, k.bk h2 (hs e (List.mem_singleton.2 rfl))⟩⟩
theorem Many.rd {w : World} {e : TypeId} {n sz : Nat} {cs : List Value} {v : Value} (h : Many w e n cs v) (hl : cs.length = n * sz) : ∃ ad, v = .slice ad n n ∧ (ad = none → n = 0) ∧ Rd w ad n sz cs := by
 obtain ⟨g, rfl, hb⟩ := h
 refine ⟨_, rfl, (fun h => by cases h), ⟨hl, fun _ => ⟨g, 0, rfl, hb.lt, fun j u hu => ?_⟩⟩⟩
 rw [Nat.zero_add, hb.cell]; simpa using hu
structure JW (B : Nat) (base : World) (S : List Nat) (T : List (Rw B)) (tyss : List (List Nat)) (cons : List (Option Nat)) (prs : List (Nat × Nat)) (cut : Nat) (listed : Array Bool) (f : Nat → Value) (w : World) : Prop where
 lo : B ≤ w.heap.size
 ext : Kt S B base w
 vals : ∀ i, listed.getD i false = true → (∀ c, cons.getD i none = some c → listed.getD c false = false) → (T.getD i .any).holds (f i) w
 ord : ∀ x ∈ prs, listed.getD x.1 false = true → listed.getD x.2 false = true
 pre : listed.getD cut false = false → Ex base w
section
variable {B : Nat} {base : World} {S : List Nat} {T : List (Rw B)} {tyss : List (List Nat)} {cons : List (Option Nat)} {prs : List (Nat × Nat)} {cut : Nat}
theorem JW.start (hB : B ≤ base.heap.size) (listed : Array Bool) (f : Nat → Value) (h0 : ∀ i, listed.getD i false = false) : JW B base S T tyss cons prs cut listed f base.drew :=
 ⟨hB, Ex.kt (show Ex base base.drew from (Below.refl base.heap.size base).drew) hB, fun i hi => absurd hi (by rw [h0 i]; decide), fun x _ hx => absurd hx (by rw [h0 x.1]; decide), fun _ => (Below.refl base.heap.size base).drew⟩
theorem set_new {listed : Array Bool} {i : Nat} (hi : i < listed.size) : (listed.setIfInBounds i true).getD i false = true := by
 rw [Array.getD_eq_getD_getElem?, Array.getElem?_setIfInBounds_self_of_lt hi]; rfl
theorem JW.next {listed : Array Bool} {f : Nat → Value} {w w' : World} (h : JW B base S T tyss cons prs cut listed f w)
  (hty : T.map Rw.tys = tyss) {i : Nat} (hi : i < listed.size) {v : Value} (S' : List Nat) (hS : ∀ x ∈ S', x ∈ S) (k : Kt S' B w w') (hv : (T.getD i .any).holds v w')
  (hc : ∀ j, j ≠ i → (∃ t ∈ S', t ∈ tyss.getD j []) → listed.getD j false = true → ∃ c, cons.getD j none = some c ∧ (c = i ∨ listed.getD c false = true))
  (ho : ∀ x ∈ prs, x.1 = i → listed.getD x.2 false = true) (hp : (listed.setIfInBounds i true).getD cut false = false → Ex base w') : JW B base S T tyss cons prs cut (listed.setIfInBounds i true) (upd f i v) w' := by
 have new := set_new hi
 have mono : ∀ c, listed.getD c false = true → (listed.setIfInBounds i true).getD c false = true := fun c hc => by
  by_cases e : i = c
  ·subst e; exact new
  ·rw [gset e false]; exact hc
 refine ⟨Nat.le_trans h.lo k.size, h.ext.trans (k.mono hS), fun j hj hcj => ?_, fun x hx h1 => ?_, hp⟩
 ·by_cases e : j = i
  ·subst e; rw [upd_same]; exact hv
  rw [upd_ne _ _ e]
  have hj' : listed.getD j false = true := by
   rcases listed_set hj with rfl | hj
   ·exact absurd rfl e
   ·exact hj
  have hold := h.vals j hj' (fun c hcc => set_falseR (hcj c hcc))
  refine (T.getD j .any).stab S' _ _ _ hold k ?_
  have ht : (T.getD j .any).tys = tyss.getD j [] := by
   rw [← hty, List.getD_eq_getElem?_getD, List.getD_eq_getElem?_getD, List.getElem?_map]
   cases T[j]? <;> rfl
  rw [ht]
  intro t htj hin
  obtain ⟨c, hcc, hci⟩ := hc j e ⟨t, hin, htj⟩ hj'
  have := hcj c hcc
  rcases hci with rfl | hci
  ·rw [new] at this; cases this
  rw [mono c hci] at this; cases this
 rcases listed_set h1 with e | h1
 ·exact mono _ (ho x hx e)
 exact mono _ (h.ord x hx h1)
theorem JW.plain {listed : Array Bool} {f : Nat → Value} {w w' : World} (h : JW B base S T tyss cons prs cut listed f w)
  (hty : T.map Rw.tys = tyss) {i : Nat} (hi : i < listed.size) {v : Value} (k : Ex w w') (hv : (T.getD i .any).holds v w')
  (ho : ∀ x ∈ prs, x.1 = i → listed.getD x.2 false = true) : JW B base S T tyss cons prs cut (listed.setIfInBounds i true) (upd f i v) w' :=
 h.next hty hi [] (by simp) (k.kt h.lo) hv (fun j _ ⟨t, ht, _⟩ => by simp at ht) ho (fun hp => Ex.trans (h.pre (set_falseR hp)) k)
end
theorem no_head {prs : List (Nat × Nat)} {i : Nat} {listed : Array Bool} (h : (prs.all fun x => x.1 != i) = true) : ∀ x ∈ prs, x.1 = i → listed.getD x.2 false = true := fun x hx e => by
 have := List.all_eq_true.1 h x hx
 rw [e] at this
 simp at this
theorem no_c {P : Nat → Prop} : ∀ c, (none : Option Nat) = some c → P c := fun c h => by cases h
theorem int_eq {a b : Int} (h : a = b) : Value.int .i64 a = Value.int .i64 b := congrArg _ h
end Go.Proofs.Ytmjfnpmnhehnkaa
