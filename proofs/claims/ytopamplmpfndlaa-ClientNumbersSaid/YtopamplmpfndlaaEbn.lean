/- Wa -/
import Derived.Test.YtopamplmpfndlaaEbm
set_option maxRecDepth 100000
set_option maxHeartbeats 16000000
namespace Go.Proofs.Ytopamplmpfndlaa
open Go.RowKit
theorem Qt.right_iff (q : Qt) : q.ct.right = true ↔ (0 ≤ q.client ∧ q.client < 4 ∧ q.num ≤ 1099511627776) ∧ (((q.op = 1 ∨ q.op = 3) ∧ 1 ≤ q.lim ∧ q.lim ≤ 32 ∧ q.sec.l.length ≤ 64) ∨ (q.op = 2 ∧ q.lim = 0 ∧ q.own = z16 ∧ q.sec.l.length = 0) ∨ (q.op = 4 ∧ q.lim = 0 ∧ q.pin = z16 ∧ q.sec.l.length = 0)) := by
 have hs : q.sec.l.length = 0 ↔ q.sec.l = [] := List.length_eq_zero_iff
 rw [hs]
 show (decide (0 ≤ q.client ∧ q.client < 4 ∧ q.num ≤ 1099511627776) && (if q.op = 1 ∨ q.op = 3 then decide (1 ≤ q.lim ∧ q.lim ≤ 32) && decide (q.sec.l.length ≤ 64) else if q.op = 2 then decide (q.lim = 0) && decide (q.own = z16) && decide (q.sec.l = []) else if q.op = 4 then decide (q.lim = 0) && decide (q.pin = z16) && decide (q.sec.l = []) else false)) = true ↔ _
 rw [Bool.and_eq_true, decide_eq_true_eq]
 refine and_congr_right fun _ => ?_
 by_cases h1 : q.op = 1 ∨ q.op = 3
 ·rw [if_pos h1]
  simp only [Bool.and_eq_true, decide_eq_true_eq]
  constructor
  ·rintro ⟨⟨a, b⟩, c⟩; exact Or.inl ⟨h1, a, b, c⟩
  rintro (⟨_, a, b, c⟩ | ⟨a, _⟩ | ⟨a, _⟩)
  ·exact ⟨⟨a, b⟩, c⟩
  ·omega
  omega
 rw [if_neg h1]
 by_cases h2 : q.op = 2
 ·rw [if_pos h2]
  simp only [Bool.and_eq_true, decide_eq_true_eq]
  constructor
  ·rintro ⟨⟨a, b⟩, c⟩; exact Or.inr (Or.inl ⟨h2, a, b, c⟩)
  rintro (⟨a, _⟩ | ⟨_, a, b, c⟩ | ⟨a, _⟩)
  ·exact absurd a h1
  ·exact ⟨⟨a, b⟩, c⟩
  omega
 rw [if_neg h2]
 by_cases h4 : q.op = 4
 ·rw [if_pos h4]
  simp only [Bool.and_eq_true, decide_eq_true_eq]
  constructor
  ·rintro ⟨⟨a, b⟩, c⟩; exact Or.inr (Or.inr ⟨h4, a, b, c⟩)
  rintro (⟨a, _⟩ | ⟨a, _⟩ | ⟨_, a, b, c⟩)
  ·exact absurd a h1
  ·omega
  exact ⟨⟨a, b⟩, c⟩
 rw [if_neg h4]
 constructor
 ·intro h; cases h
 rintro (⟨a, _⟩ | ⟨a, _⟩ | ⟨a, _⟩)
 ·exact absurd a h1
 ·exact absurd a h2
 exact absurd a h4
theorem ret_b {z b : Bool} {w w' : World} (h : z = b) (hx : Ex w w') : (Ending.returned (.bool b) = Ending.returned (.bool z)) ∧ Ex w w' := ⟨by rw [h], hx⟩
theorem rqright_any (q : Qt) (w : World) (ha : QI w q) : Calls Try.prog 29 #[q.V] w fun e w' => e = .returned (.bool q.ct.right) ∧ Ex w w' := by
 have hr := Qt.right_iff q
 obtain ⟨z, hz⟩ : ∃ z, z = q.ct.right := ⟨_, rfl⟩
 rw [← hz] at hr ⊢
 have HR := Hi hr
 clear hz hr
 have CN := Hi (fun w1 => rnum_any q.num w1)
 obtain ⟨cs, hcs⟩ : ∃ cs, cs = q.C.toArray := ⟨_, rfl⟩
 have A0 : Hid (QB (w.alloc (.cells cs 47)) w.heap.size q) := Hi ⟨ha.ok, by rw [hcs]; exact Bk.new rfl _ _⟩
 have BW : Hid (Ex w (w.alloc (.cells cs 47))) := Hi (Ex.alloc w _)
 rw [show (Calls Try.prog 29 #[q.V] w) = (Calls Try.prog 29 #[.agg cs] w) by rw [hcs]; rfl]
 clear hcs ha
 obtain ⟨q0, q21, q22, q55, q56⟩ := A0.out.cells
 unfold Pt.V at q21
 by_cases h1 : q.client < 0
 ·go_enter Try.func29, Try.ntmps29
  go_wp2_with fail
  go_ret
  have e : z = false := Bool.eq_false_iff.2 (fun h => by rcases (HR.out.1 h) with ⟨⟨a1, a2, a3⟩, ⟨b1, b2, b3, b4⟩ | ⟨b1, b2, b3, b4⟩ | ⟨b1, b2, b3, b4⟩⟩ <;> omega)
  exact ret_b e BW.out
 by_cases h2 : q.client ≥ 4
 ·go_enter Try.func29, Try.ntmps29
  go_wp2_with fail
  go_ret
  have e : z = false := Bool.eq_false_iff.2 (fun h => by rcases (HR.out.1 h) with ⟨⟨a1, a2, a3⟩, ⟨b1, b2, b3, b4⟩ | ⟨b1, b2, b3, b4⟩ | ⟨b1, b2, b3, b4⟩⟩ <;> omega)
  exact ret_b e BW.out
 by_cases h3 : q.num ≤ 1099511627776
 case neg =>
  rw [decide_eq_false h3] at CN
  go_enter Try.func29, Try.ntmps29
  go_wp2_with ((with_reducible refine so0 ?_ ?_); (focus rfl))
  refine (CN.out _).mono ?_
  rintro e w2 ⟨rfl, rfl⟩
  clear CN
  go_wp2_with fail
  go_ret
  have e : z = false := Bool.eq_false_iff.2 (fun h => by rcases (HR.out.1 h) with ⟨⟨a1, a2, a3⟩, ⟨b1, b2, b3, b4⟩ | ⟨b1, b2, b3, b4⟩ | ⟨b1, b2, b3, b4⟩⟩ <;> omega)
  exact ret_b e BW.out
 rw [decide_eq_true h3] at CN
 obtain ⟨p, hp⟩ : ∃ p, p = q.op := ⟨_, rfl⟩
 rw [← hp] at q0 HR
 clear hp
 by_cases hp : p = 1
 case pos =>
  subst hp
  by_cases hl : q.lim = 0
  ·have HL := Hi hl
   rw [hl] at q22
   by_cases hs : q.sec.l.length = 0
   ·rw [hs] at q21
    clear hl hs
    go_enter Try.func29, Try.ntmps29
    go_wp2_with ((with_reducible refine so0 ?_ ?_); (focus rfl))
    refine (CN.out _).mono ?_
    rintro e w2 ⟨rfl, rfl⟩
    clear CN
    go_wp2_with ((with_reducible refine so0 ?_ ?_); (focus rfl))
    go_wp2_with fail
    go_ret
    have e : z = false := Bool.eq_false_iff.2 (fun h => by have := HL.out; rcases (HR.out.1 h) with ⟨⟨a1, a2, a3⟩, ⟨b1, b2, b3, b4⟩ | ⟨b1, b2, b3, b4⟩ | ⟨b1, b2, b3, b4⟩⟩ <;> omega)
    exact ret_b e BW.out
   have hs2 : ¬ (q.sec.l.length : Int) = 0 := by omega
   clear hl
   go_enter Try.func29, Try.ntmps29
   go_wp2_with ((with_reducible refine so0 ?_ ?_); (focus rfl))
   refine (CN.out _).mono ?_
   rintro e w2 ⟨rfl, rfl⟩
   clear CN
   go_wp2_with ((with_reducible refine so0 ?_ ?_); (focus rfl))
   go_wp2_with fail
   go_ret
   have e : z = false := Bool.eq_false_iff.2 (fun h => by have := HL.out; rcases (HR.out.1 h) with ⟨⟨a1, a2, a3⟩, ⟨b1, b2, b3, b4⟩ | ⟨b1, b2, b3, b4⟩ | ⟨b1, b2, b3, b4⟩⟩ <;> omega)
   exact ret_b e BW.out
  by_cases m1 : 1 ≤ q.lim
  case neg =>
   go_enter Try.func29, Try.ntmps29
   go_wp2_with ((with_reducible refine so0 ?_ ?_); (focus rfl))
   refine (CN.out _).mono ?_
   rintro e w2 ⟨rfl, rfl⟩
   clear CN
   go_wp2_with ((with_reducible refine so0 ?_ ?_); (focus rfl))
   go_wp2_with fail
   go_ret
   have e : z = false := Bool.eq_false_iff.2 (fun h => by rcases (HR.out.1 h) with ⟨⟨a1, a2, a3⟩, ⟨b1, b2, b3, b4⟩ | ⟨b1, b2, b3, b4⟩ | ⟨b1, b2, b3, b4⟩⟩ <;> omega)
   exact ret_b e BW.out
  by_cases m2 : q.lim ≤ 32
  case neg =>
   go_enter Try.func29, Try.ntmps29
   go_wp2_with ((with_reducible refine so0 ?_ ?_); (focus rfl))
   refine (CN.out _).mono ?_
   rintro e w2 ⟨rfl, rfl⟩
   clear CN
   go_wp2_with ((with_reducible refine so0 ?_ ?_); (focus rfl))
   go_wp2_with fail
   go_ret
   have e : z = false := Bool.eq_false_iff.2 (fun h => by rcases (HR.out.1 h) with ⟨⟨a1, a2, a3⟩, ⟨b1, b2, b3, b4⟩ | ⟨b1, b2, b3, b4⟩ | ⟨b1, b2, b3, b4⟩⟩ <;> omega)
   exact ret_b e BW.out
  go_enter Try.func29, Try.ntmps29
  go_wp2_with ((with_reducible refine so0 ?_ ?_); (focus rfl))
  refine (CN.out _).mono ?_
  rintro e w2 ⟨rfl, rfl⟩
  clear CN
  go_wp2_with ((with_reducible refine so0 ?_ ?_); (focus rfl))
  go_wp2_with fail
  go_ret
  have e : z = decide ((q.sec.l.length : Int) ≤ 64) := Bool.eq_iff_iff.2 ⟨fun h => decide_eq_true (by rcases (HR.out.1 h) with ⟨⟨a1, a2, a3⟩, ⟨b1, b2, b3, b4⟩ | ⟨b1, b2, b3, b4⟩ | ⟨b1, b2, b3, b4⟩⟩ <;> omega), fun h => HR.out.2 (by have h5 := of_decide_eq_true h; exact ⟨⟨by omega, by omega, by omega⟩, Or.inl ⟨by first | trivial | omega, by omega, by omega, by omega⟩⟩)⟩
  exact ret_b e BW.out
 by_cases hp : p = 3
 case pos =>
  subst hp
  by_cases hl : q.lim = 0
  ·have HL := Hi hl
   rw [hl] at q22
   by_cases hs : q.sec.l.length = 0
   ·rw [hs] at q21
    clear hl hs
    go_enter Try.func29, Try.ntmps29
    go_wp2_with ((with_reducible refine so0 ?_ ?_); (focus rfl))
    refine (CN.out _).mono ?_
    rintro e w2 ⟨rfl, rfl⟩
    clear CN
    go_wp2_with ((with_reducible refine so0 ?_ ?_); (focus rfl))
    go_wp2_with fail
    go_ret
    have e : z = false := Bool.eq_false_iff.2 (fun h => by have := HL.out; rcases (HR.out.1 h) with ⟨⟨a1, a2, a3⟩, ⟨b1, b2, b3, b4⟩ | ⟨b1, b2, b3, b4⟩ | ⟨b1, b2, b3, b4⟩⟩ <;> omega)
    exact ret_b e BW.out
   have hs2 : ¬ (q.sec.l.length : Int) = 0 := by omega
   clear hl
   go_enter Try.func29, Try.ntmps29
   go_wp2_with ((with_reducible refine so0 ?_ ?_); (focus rfl))
   refine (CN.out _).mono ?_
   rintro e w2 ⟨rfl, rfl⟩
   clear CN
   go_wp2_with ((with_reducible refine so0 ?_ ?_); (focus rfl))
   go_wp2_with fail
   go_ret
   have e : z = false := Bool.eq_false_iff.2 (fun h => by have := HL.out; rcases (HR.out.1 h) with ⟨⟨a1, a2, a3⟩, ⟨b1, b2, b3, b4⟩ | ⟨b1, b2, b3, b4⟩ | ⟨b1, b2, b3, b4⟩⟩ <;> omega)
   exact ret_b e BW.out
  by_cases m1 : 1 ≤ q.lim
  case neg =>
   go_enter Try.func29, Try.ntmps29
   go_wp2_with ((with_reducible refine so0 ?_ ?_); (focus rfl))
   refine (CN.out _).mono ?_
   rintro e w2 ⟨rfl, rfl⟩
   clear CN
   go_wp2_with ((with_reducible refine so0 ?_ ?_); (focus rfl))
   go_wp2_with fail
   go_ret
   have e : z = false := Bool.eq_false_iff.2 (fun h => by rcases (HR.out.1 h) with ⟨⟨a1, a2, a3⟩, ⟨b1, b2, b3, b4⟩ | ⟨b1, b2, b3, b4⟩ | ⟨b1, b2, b3, b4⟩⟩ <;> omega)
   exact ret_b e BW.out
  by_cases m2 : q.lim ≤ 32
  case neg =>
   go_enter Try.func29, Try.ntmps29
   go_wp2_with ((with_reducible refine so0 ?_ ?_); (focus rfl))
   refine (CN.out _).mono ?_
   rintro e w2 ⟨rfl, rfl⟩
   clear CN
   go_wp2_with ((with_reducible refine so0 ?_ ?_); (focus rfl))
   go_wp2_with fail
   go_ret
   have e : z = false := Bool.eq_false_iff.2 (fun h => by rcases (HR.out.1 h) with ⟨⟨a1, a2, a3⟩, ⟨b1, b2, b3, b4⟩ | ⟨b1, b2, b3, b4⟩ | ⟨b1, b2, b3, b4⟩⟩ <;> omega)
   exact ret_b e BW.out
  go_enter Try.func29, Try.ntmps29
  go_wp2_with ((with_reducible refine so0 ?_ ?_); (focus rfl))
  refine (CN.out _).mono ?_
  rintro e w2 ⟨rfl, rfl⟩
  clear CN
  go_wp2_with ((with_reducible refine so0 ?_ ?_); (focus rfl))
  go_wp2_with fail
  go_ret
  have e : z = decide ((q.sec.l.length : Int) ≤ 64) := Bool.eq_iff_iff.2 ⟨fun h => decide_eq_true (by rcases (HR.out.1 h) with ⟨⟨a1, a2, a3⟩, ⟨b1, b2, b3, b4⟩ | ⟨b1, b2, b3, b4⟩ | ⟨b1, b2, b3, b4⟩⟩ <;> omega), fun h => HR.out.2 (by have h5 := of_decide_eq_true h; exact ⟨⟨by omega, by omega, by omega⟩, Or.inl ⟨by first | trivial | omega, by omega, by omega, by omega⟩⟩)⟩
  exact ret_b e BW.out
 by_cases hp : p = 2
 case pos =>
  subst hp
  by_cases hl : q.lim = 0
  case neg =>
   go_enter Try.func29, Try.ntmps29
   go_wp2_with ((with_reducible refine so0 ?_ ?_); (focus rfl))
   refine (CN.out _).mono ?_
   rintro e w2 ⟨rfl, rfl⟩
   clear CN
   go_wp2_with ((with_reducible refine so0 ?_ ?_); (focus rfl))
   go_wp2_with fail
   go_ret
   have e : z = false := Bool.eq_false_iff.2 (fun h => by rcases (HR.out.1 h) with ⟨⟨a1, a2, a3⟩, ⟨b1, b2, b3, b4⟩ | ⟨b1, b2, b3, b4⟩ | ⟨b1, b2, b3, b4⟩⟩ <;> omega)
   exact ret_b e BW.out
  have HL := Hi hl
  rw [hl] at q22
  clear hl
  by_cases hs : q.sec.l.length = 0
  case neg =>
   have hs2 : ¬ (q.sec.l.length : Int) = 0 := by omega
   go_enter Try.func29, Try.ntmps29
   go_wp2_with ((with_reducible refine so0 ?_ ?_); (focus rfl))
   refine (CN.out _).mono ?_
   rintro e w2 ⟨rfl, rfl⟩
   clear CN
   go_wp2_with ((with_reducible refine so0 ?_ ?_); (focus rfl))
   repeat ((with_reducible refine at8 ?_ ?_); (focus (go_simp; done)); go_wp2_with ((with_reducible refine so0 ?_ ?_); (focus rfl)))
   go_wp2_with fail
   go_ret
   have e : z = false := Bool.eq_false_iff.2 (fun h => by rcases (HR.out.1 h) with ⟨⟨a1, a2, a3⟩, ⟨b1, b2, b3, b4⟩ | ⟨b1, b2, b3, b4⟩ | ⟨b1, b2, b3, b4⟩⟩ <;> omega)
   exact ret_b e BW.out
  have HS := Hi hs
  rw [hs] at q21
  clear hs
  go_enter Try.func29, Try.ntmps29
  go_wp2_with ((with_reducible refine so0 ?_ ?_); (focus rfl))
  refine (CN.out _).mono ?_
  rintro e w2 ⟨rfl, rfl⟩
  clear CN
  go_wp2_with ((with_reducible refine so0 ?_ ?_); (focus rfl))
  refine at9 (by go_simp) fun K0 hK => ld_qown _ _ q rfl rfl A0.out (hK _ _ ?_)
  clear hK
  go_wp2_with ((with_reducible refine so0 ?_ ?_); (focus rfl))
  refine at9 (by go_simp) fun K0 hK => wp_build _ _ rfl _ built_z16 (hK _ _ ?_)
  clear hK
  go_wp2_with ((with_reducible refine so0 ?_ ?_); (focus rfl))
  refine at9 (by go_simp) fun K0 hK => wp_eql_dig _ _ _ rfl q.own z16 A0.out.1.ownN rfl rfl rfl (hK _ _ ?_)
  clear hK
  go_wp2_with fail
  go_ret
  have e : z = decide (q.own = z16) := Bool.eq_iff_iff.2 ⟨fun h => by rcases (HR.out.1 h) with ⟨⟨a1, a2, a3⟩, ⟨b1, b2, b3, b4⟩ | ⟨b1, b2, b3, b4⟩ | ⟨b1, b2, b3, b4⟩⟩ <;> first | omega | exact decide_eq_true b3, fun h => HR.out.2 (by have h5 := of_decide_eq_true h; have := HL.out; have := HS.out; refine ⟨by omega, ?_⟩; exact Or.inr (Or.inl ⟨by first | trivial | omega, by omega, h5, by omega⟩))⟩
  exact ret_b e BW.out
 by_cases hp : p = 4
 case pos =>
  subst hp
  by_cases hl : q.lim = 0
  case neg =>
   go_enter Try.func29, Try.ntmps29
   go_wp2_with ((with_reducible refine so0 ?_ ?_); (focus rfl))
   refine (CN.out _).mono ?_
   rintro e w2 ⟨rfl, rfl⟩
   clear CN
   go_wp2_with ((with_reducible refine so0 ?_ ?_); (focus rfl))
   go_wp2_with fail
   go_ret
   have e : z = false := Bool.eq_false_iff.2 (fun h => by rcases (HR.out.1 h) with ⟨⟨a1, a2, a3⟩, ⟨b1, b2, b3, b4⟩ | ⟨b1, b2, b3, b4⟩ | ⟨b1, b2, b3, b4⟩⟩ <;> omega)
   exact ret_b e BW.out
  have HL := Hi hl
  rw [hl] at q22
  clear hl
  by_cases hs : q.sec.l.length = 0
  case neg =>
   have hs2 : ¬ (q.sec.l.length : Int) = 0 := by omega
   go_enter Try.func29, Try.ntmps29
   go_wp2_with ((with_reducible refine so0 ?_ ?_); (focus rfl))
   refine (CN.out _).mono ?_
   rintro e w2 ⟨rfl, rfl⟩
   clear CN
   go_wp2_with ((with_reducible refine so0 ?_ ?_); (focus rfl))
   repeat ((with_reducible refine at8 ?_ ?_); (focus (go_simp; done)); go_wp2_with ((with_reducible refine so0 ?_ ?_); (focus rfl)))
   go_wp2_with fail
   go_ret
   have e : z = false := Bool.eq_false_iff.2 (fun h => by rcases (HR.out.1 h) with ⟨⟨a1, a2, a3⟩, ⟨b1, b2, b3, b4⟩ | ⟨b1, b2, b3, b4⟩ | ⟨b1, b2, b3, b4⟩⟩ <;> omega)
   exact ret_b e BW.out
  have HS := Hi hs
  rw [hs] at q21
  clear hs
  go_enter Try.func29, Try.ntmps29
  go_wp2_with ((with_reducible refine so0 ?_ ?_); (focus rfl))
  refine (CN.out _).mono ?_
  rintro e w2 ⟨rfl, rfl⟩
  clear CN
  go_wp2_with ((with_reducible refine so0 ?_ ?_); (focus rfl))
  refine at9 (by go_simp) fun K0 hK => ld_qpin _ _ q rfl rfl A0.out (hK _ _ ?_)
  clear hK
  go_wp2_with ((with_reducible refine so0 ?_ ?_); (focus rfl))
  refine at9 (by go_simp) fun K0 hK => wp_build _ _ rfl _ built_z16 (hK _ _ ?_)
  clear hK
  go_wp2_with ((with_reducible refine so0 ?_ ?_); (focus rfl))
  refine at9 (by go_simp) fun K0 hK => wp_eql_dig _ _ _ rfl q.pin z16 A0.out.1.pinN rfl rfl rfl (hK _ _ ?_)
  clear hK
  go_wp2_with fail
  go_ret
  have e : z = decide (q.pin = z16) := Bool.eq_iff_iff.2 ⟨fun h => by rcases (HR.out.1 h) with ⟨⟨a1, a2, a3⟩, ⟨b1, b2, b3, b4⟩ | ⟨b1, b2, b3, b4⟩ | ⟨b1, b2, b3, b4⟩⟩ <;> first | omega | exact decide_eq_true b3, fun h => HR.out.2 (by have h5 := of_decide_eq_true h; have := HL.out; have := HS.out; refine ⟨by omega, ?_⟩; exact Or.inr (Or.inr ⟨by first | trivial | omega, by omega, h5, by omega⟩))⟩
  exact ret_b e BW.out
 by_cases hl : q.lim = 0
 ·rw [hl] at q22
  clear hl
  by_cases hs : q.sec.l.length = 0
  ·rw [hs] at q21
   clear hs
   go_enter Try.func29, Try.ntmps29
   go_wp2_with ((with_reducible refine so0 ?_ ?_); (focus rfl))
   refine (CN.out _).mono ?_
   rintro e w2 ⟨rfl, rfl⟩
   clear CN
   go_wp2_with ((with_reducible refine so0 ?_ ?_); (focus rfl))
   go_wp2_with fail
   go_ret
   have e : z = false := Bool.eq_false_iff.2 (fun h => by rcases (HR.out.1 h) with ⟨⟨a1, a2, a3⟩, ⟨b1, b2, b3, b4⟩ | ⟨b1, b2, b3, b4⟩ | ⟨b1, b2, b3, b4⟩⟩ <;> omega)
   exact ret_b e BW.out
  have hs2 : ¬ (q.sec.l.length : Int) = 0 := by omega
  go_enter Try.func29, Try.ntmps29
  go_wp2_with ((with_reducible refine so0 ?_ ?_); (focus rfl))
  refine (CN.out _).mono ?_
  rintro e w2 ⟨rfl, rfl⟩
  clear CN
  go_wp2_with ((with_reducible refine so0 ?_ ?_); (focus rfl))
  go_wp2_with fail
  go_ret
  have e : z = false := Bool.eq_false_iff.2 (fun h => by rcases (HR.out.1 h) with ⟨⟨a1, a2, a3⟩, ⟨b1, b2, b3, b4⟩ | ⟨b1, b2, b3, b4⟩ | ⟨b1, b2, b3, b4⟩⟩ <;> omega)
  exact ret_b e BW.out
 go_enter Try.func29, Try.ntmps29
 go_wp2_with ((with_reducible refine so0 ?_ ?_); (focus rfl))
 refine (CN.out _).mono ?_
 rintro e w2 ⟨rfl, rfl⟩
 clear CN
 go_wp2_with ((with_reducible refine so0 ?_ ?_); (focus rfl))
 go_wp2_with fail
 go_ret
 have e : z = false := Bool.eq_false_iff.2 (fun h => by rcases (HR.out.1 h) with ⟨⟨a1, a2, a3⟩, ⟨b1, b2, b3, b4⟩ | ⟨b1, b2, b3, b4⟩ | ⟨b1, b2, b3, b4⟩⟩ <;> omega)
 exact ret_b e BW.out
end Go.Proofs.Ytopamplmpfndlaa
