/- what a register that goes on is -/
import Derived.Test.YtlebanghcbkejaaRgD
namespace Go.Proofs.Ytlebanghcbkejaa
open Go.RowKit
theorem wp_neq_dig {o : Oper} {a : Act} {w : World} {K : Act → World → Prop} {Q : Exit → Act → World → Prop} (t' : TypeId) (x y : Operand) (ho : o.op = .binOp .neq 25 x y t')
    (l m : List UInt8) (hl : l.length = 16) (hm : m.length = 16) (hx : a.eval x = digV l) (hy : a.eval y = digV m) (h : K (a.put o.dst (.bool (!decide (l = m)))) w) : o.wp Try.prog a w K Q := by
  have heq := eq_digest w 9998 l m hl hm
  unfold Oper.wp execOp
  simp only [ho, hx, hy]
  unfold digV at heq ⊢
  simp [run_eqGuard_agg, run_neq_struct, Try.guard25, heq, Sem.run_bind, Result.andThen, Oper.upon]
  simpa using h
theorem wp_neqd {o : Oper} {a : Act} {w : World} {K : Act → World → Prop} {Q : Exit → Act → World → Prop} (t' : TypeId) (x y : Operand) (l m : List UInt8) (b : Bool) (ho : o.op = .binOp .neq 25 x y t')
    (hl : l.length = 16) (hm : m.length = 16) (hx : a.eval x = digV l) (hy : a.eval y = digV m) (hb : (!decide (l = m)) = b) (h : K (a.put o.dst (.bool b)) w) : o.wp Try.prog a w K Q :=
  wp_neq_dig t' x y ho l m hl hm hx hy (by rw [hb]; exact h)
def st (H : List UInt8) (j : Nat) : Rg := ⟨0, (j : Int), 8 * ((j / 8 : Nat) : Int), if j = 0 then zeroL else H, ((j / 8 % 2 : Nat) : Int)⟩
def nx (H : List UInt8) (j : Nat) : Rg := ⟨0, (j : Int) + 1, 8 * ((j / 8 : Nat) : Int), H, ((j / 8 % 2 : Nat) : Int)⟩
theorem st_len {H : List UInt8} (hH : H.length = 16) (j : Nat) : (st H j).l.length = 16 := by
  unfold st; simp only; split
  · rfl
  · exact hH
theorem st_ok {H : List UInt8} (hH : H.length = 16) (j : Nat) : (st H j).Ok := ⟨by show (0:Int) ≤ 0; omega, by show 0 ≤ (j:Int); omega, by show 0 ≤ 8 * ((j / 8 : Nat) : Int); omega, st_len hH j⟩
theorem nx_ok {H : List UInt8} (hH : H.length = 16) (j : Nat) : (nx H j).Ok := ⟨by show (0:Int) ≤ 0; omega, by show 0 ≤ (j:Int) + 1; omega, by show 0 ≤ 8 * ((j / 8 : Nat) : Int); omega, hH⟩
theorem st_right (H : List UInt8) (j : Nat) (hj : j ≤ 100) : (st H j).right = true := by
  refine Rg.right_yes ?_ ?_ ?_ ?_ ?_ ?_
  · show (0:Int) ≤ _; omega
  · show (j:Int) ≤ _; omega
  · show 8 * ((j / 8 : Nat) : Int) ≤ (j : Int); omega
  · show (j : Int) - 8 * ((j / 8 : Nat) : Int) ≤ 8; omega
  · show ((j / 8 % 2 : Nat) : Int) = 0 ∨ ((j / 8 % 2 : Nat) : Int) = 1; omega
  · by_cases h : j = 0
    · exact Or.inr (by unfold st; simp [h])
    · exact Or.inl (by show 0 < (j : Int); omega)
theorem nx_right (H : List UInt8) (j : Nat) (hj : j ≤ 100) : (nx H j).right = true := by
  refine Rg.right_yes ?_ ?_ ?_ ?_ ?_ ?_
  · show (0:Int) ≤ _; omega
  · show (j:Int) + 1 ≤ _; omega
  · show 8 * ((j / 8 : Nat) : Int) ≤ (j : Int) + 1; omega
  · show (j : Int) + 1 - 8 * ((j / 8 : Nat) : Int) ≤ 8; omega
  · show ((j / 8 % 2 : Nat) : Int) = 0 ∨ ((j / 8 % 2 : Nat) : Int) = 1; omega
  · exact Or.inl (by show 0 < (j : Int) + 1; omega)
theorem call_next {H : List UInt8} (hH : H.length = 16) (j : Nat) (hj : j ≤ 100) (w : World) : Calls Try.prog 13 #[(st H j).V, digV H] w fun e w' => e = .returned (.tuple #[(nx H j).V, .bool true]) ∧ Below w.heap.size w w' :=
  (next_one (st H j) (st_ok hH j) H hH (by show (j:Int) < _; omega) w).mono (fun e w' h => ⟨h.1.trans (by
    have e1 : (st H j).next H = nx H j := rfl
    unfold keptV; rw [e1, st_right H j hj, nx_right H j hj]; rfl), h.2⟩)
theorem call_over {H : List UInt8} (hH : H.length = 16) (j : Nat) (hj : j ≤ 100) (h7 : j % 8 = 7) (w : World) : Calls Try.prog 13 #[(nx H j).V, digV H] w fun e w' => e = .returned (.tuple #[zeroRg.V, .bool false]) ∧ Below w.heap.size w w' :=
  (next_one (nx H j) (nx_ok hH j) H hH (by show (j:Int) + 1 < _; omega) w).mono (fun e w' h => ⟨h.1.trans (by
    have e1 : ((nx H j).next H).right = false := Rg.right_over (by show 8 < (j:Int) + 1 + 1 - 8 * ((j / 8 : Nat) : Int); omega)
    unfold keptV; rw [e1]; simp), h.2⟩)
theorem nx_st (H : List UInt8) (j : Nat) (h7 : j % 8 < 7) : nx H j = st H (j + 1) := by
  have e1 : (j + 1) / 8 = j / 8 := by omega
  unfold nx st; rw [e1]; simp
theorem call_fold {H : List UInt8} (hH : H.length = 16) (j : Nat) (hj : j < 100) (h7 : j % 8 = 7) (w : World) : Calls Try.prog 15 #[(nx H j).V, digV H] w fun e w' => e = .returned (.tuple #[(st H (j + 1)).V, .bool true]) ∧ Below w.heap.size w w' :=
  (fold_one (nx H j) (nx_ok hH j) H hH (by show (j:Int) + 1 < _; omega) (by show 0 ≤ ((j / 8 % 2 : Nat) : Int); omega) (by show ((j / 8 % 2 : Nat) : Int) ≤ 1; omega) w).mono (fun e w' h => ⟨h.1.trans (by
    have e1 : (nx H j).fold H = st H (j + 1) := by
      have e2 : (j + 1) / 8 = j / 8 + 1 := by omega
      unfold Rg.fold nx st
      rw [e2]
      simp only [Rg.mk.injEq]
      refine ⟨trivial, by omega, by omega, by simp, by omega⟩
    unfold foldV; rw [if_neg (by show ¬ ((j:Int) + 1 ≤ 8 * ((j / 8 : Nat) : Int)); omega)]
    unfold keptV; rw [e1, st_right H (j + 1) (by omega), nx_right H j (by omega)]; rfl), h.2⟩)
theorem held_nx {H : List UInt8} (hH : H.length = 16) (j : Nat) (hj : j ≤ 100) (w : World) : Calls Try.prog 16 #[(nx H j).V] w fun e w' => e = .returned (.int .i64 ((j % 8 : Nat) + 1)) ∧ Below w.heap.size w w' :=
  (held_one (nx H j) (nx_ok hH j) w).mono (fun e w' h => ⟨h.1.trans (by
    rw [(Rg.held_is (nx_right H j hj)).1]
    show Ending.returned (Value.int .i64 ((j:Int) + 1 - 8 * ((j / 8 : Nat) : Int))) = _
    rw [show (j:Int) + 1 - 8 * ((j / 8 : Nat) : Int) = ((j % 8 : Nat) : Int) + 1 by omega]), h.2⟩)
theorem held_st {H : List UInt8} (hH : H.length = 16) (j : Nat) (hj : j ≤ 100) (w : World) : Calls Try.prog 16 #[(st H j).V] w fun e w' => e = .returned (.int .i64 ((j % 8 : Nat) : Int)) ∧ Below w.heap.size w w' :=
  (held_one (st H j) (st_ok hH j) w).mono (fun e w' h => ⟨h.1.trans (by
    rw [(Rg.held_is (st_right H j hj)).1]
    show Ending.returned (Value.int .i64 ((j:Int) - 8 * ((j / 8 : Nat) : Int))) = _
    rw [show (j:Int) - 8 * ((j / 8 : Nat) : Int) = ((j % 8 : Nat) : Int) by omega]), h.2⟩)
end Go.Proofs.Ytlebanghcbkejaa
