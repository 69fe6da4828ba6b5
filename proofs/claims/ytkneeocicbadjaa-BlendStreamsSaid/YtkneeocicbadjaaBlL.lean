/- append of a row of bytes to a row that is full -/
import Derived.Test.YtkneeocicbadjaaFlB
import Derived.Deep.Upon
namespace Go.Proofs.Ytkneeocicbadjaa
open Go.RowKit
theorem pt_src (q : Pt) (w : World) {B : Nat} (hq : q.In w B) (h0 : q.l = []) : Src Try.prog 1 22 q.V 0 [] w := by
  unfold Pt.V
  rw [h0]
  cases hqa : q.ad with
  | none => exact Src.ofNil w Try.underlying22 q.cap
  | some a => exact Src.ofSlice w Try.underlying22 a 0 q.cap [] rfl (fun j u h => by cases h) (fun u h => by cases h)
theorem wp_app_full {o : Oper} {a : Act} {w : World} {K : Act → World → Prop} {Q : Exit → Act → World → Prop} (s x : Operand)
    (hop : o.op = .call { callee := .builtin .append, args := #[s, x], argTypes := #[22, 22] }) (p q : Pt) (hs : a.eval s = p.V) (hx : a.eval x = q.V)
    (hp : p.In w w.heap.size) (hq : q.In w w.heap.size) (hf : p.cap = p.l.length) (hN : p.l.length + q.l.length ≤ 100000000000000)
    (h : ∀ (r : Pt) w', r.l = p.l ++ q.l → r.In w' w'.heap.size → Ex w w' → K (a.put o.dst r.V) w') : o.wp Try.prog a w K Q := by
  by_cases h0 : q.l = []
  · obtain ⟨i0, hi0, hz0, hz1, hz2⟩ := info_parts sm_u8
    have hrun : (Builtin.append_ #[22, 22] o.type #[p.V, q.V]).run Try.prog w = .ok p.V w := by
      have hS := pt_src q w hq h0
      have h1 := run_append_nothing (P := Try.prog) (ty := o.type) w 22 22 5 i0 Try.underlying22 hi0 p.ad p.l.length p.cap hp.cap q.V (by rw [hz1]; exact hS)
      exact h1
    unfold Oper.wp
    simp [execOp, hop, resolve, invoke, builtin, hs, hx, hrun, Result.andThen]
    exact h p w (by rw [h0, List.append_nil]) hp (Ex.refl _)
  · have : 0 < q.l.length := List.length_pos_iff.2 h0
    exact wp_app s x hop p q hs hx hp hq (by omega) hN h
end Go.Proofs.Ytkneeocicbadjaa
