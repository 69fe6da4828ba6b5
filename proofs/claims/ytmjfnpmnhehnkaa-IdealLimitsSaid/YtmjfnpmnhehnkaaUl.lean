/- ideal maps: lemmas for the laws -/
import Derived.Test.YtmjfnpmnhehnkaaUk
import Derived.Test.YtmjfnpmnhehnkaaVlf
import Derived.Test.YtmjfnpmnhehnkaaTj
namespace Go.Proofs.Ytmjfnpmnhehnkaa
open Go.RowKit
theorem VRow.other {w w' : World} {D' B : Nat} {v rv' : Value} {xs vs' : List Vt} (h : VRow w B v xs) (h' : TB w D' rv' vs') (k : Tc D' rv'.ownBlock w w') (hr : Djn v rv') : VRow w' B v xs := by
  have hrow := h'.row.blk
  have keep : ∀ x, TVN w x → TVN w' x := fun x hx => by
    rcases hrow with e | ⟨gb, e, _, _, hb⟩
    · exact hx.tc (gb := 0) k h'.blk (Or.inl e)
    · exact hx.tc k h'.blk (Or.inr ⟨e, hb⟩)
  refine ⟨⟨h.row.1, h.row.2.imp id fun ⟨g, cap, cur, hv, hB, hg, hrest⟩ => ⟨g, cap, cur, hv, hB, ?_, hrest⟩⟩, fun i x hx => keep x (h.ins i x hx)⟩
  exact (show Bk w' g 36 cur from k.bk hg (fun e => by subst e; exact h'.D_ne hg rfl) (fun e => hr g (by rw [hv]; rfl) e.symm))
/-- a row that was made when the map was there already -/
theorem IM.djn {wr w2 : World} {B M : Nat} {D : Nat → Nat} {r : Nat → Value} {v : Nat → List Vt} {va : Value} {xs : List Vt} (h : IM wr B M D r v) (hv : VRow w2 wr.heap.size va xs) {s : Nat} (hs : s < 16) : Djn va (r s) := fun g h1 h2 => by
  have h3 := hv.row.lt g h1
  have h4 := (h.ts.tb s hs).row.row.lt g h2
  omega
theorem VRow.inn3 {w : World} {B : Nat} {v : Value} {xs : List Vt} (h : VRow w B v xs) : ∃ ad cap, v = .slice ad xs.length cap ∧ Vp.In ad cap xs w ∧ cap ≤ 9223372036854775807 := by
  obtain ⟨ad, cap, e, hin⟩ := h.inn
  obtain ⟨ad2, cap2, e2, _, _, hc, _⟩ := own_rd h.row
  rw [e] at e2; cases e2
  exact ⟨ad, cap, e, hin, hc⟩
theorem rvs_rows {w : World} {B1 B2 : Nat} {v1 v2 : Value} {xs ys : List Vt} (h1 : VRow w B1 v1 xs) (h2 : VRow w B2 v2 ys) : Calls Try.prog 30 #[v1, v2] w fun e w' => e = .returned (.bool (decide (xs.map Vt.ct = ys.map Vt.ct))) ∧ Ex w w' := by
  obtain ⟨a1, c1, rfl, i1, b1⟩ := h1.inn3
  obtain ⟨a2, c2, rfl, i2, b2⟩ := h2.inn3
  exact rvs_any a1 a2 c1 c2 xs ys b1 b2 w i1 i2 (fun i x hx => (h1.ins i x hx).vi) (fun i x hx => (h2.ins i x hx).vi)
theorem actC_why (v : Vc) (q : Qc) (r : Rc) (hr : r.why = 0) : (actC v q r).2.1.why = 0 ∨ (actC v q r).2.1.why = 23 := by
  unfold actC guessC
  repeat' split
  all_goals simp [hr]
theorem doC_why {v : Vc} {q : Qc} (h : (doC v q).2.2 = true) : (doC v q).2.1.why = 0 ∨ (doC v q).2.1.why = 23 := by
  unfold doC at h ⊢
  by_cases h1 : q.right = false ∨ (v ≠ zeroVc ∧ (v.right = false ∨ v.id ≠ q.id))
  · rw [if_pos h1] at h; cases h
  · rw [if_neg h1] at h ⊢
    by_cases h2 : refuseC v (decide (v = zeroVc)) q = 0
    · rw [if_pos h2] at h ⊢
      have ha := actC_why v q (repRt 0 q.id q.client q.num).ct rfl
      generalize actC v q (repRt 0 q.id q.client q.num).ct = p at h ha ⊢
      obtain ⟨x, y, b⟩ := p
      exact ha
    · rw [if_neg h2] at h; cases h
theorem istep_same {v v' : Nat → List Vt} {s : Nat} {q : Qc} {y : Rc} (h : IStep v s q y v') (h0 : y.why ≠ 0) (h23 : y.why ≠ 23) : v' = v := by
  rcases h with ⟨_, _, h⟩ | ⟨_, c, b, _, ⟨_, _, h⟩ | ⟨_, _, _, _, h⟩ | ⟨h1, _, rfl, _⟩⟩
  · exact h
  · exact h
  · exact h
  · rcases doC_why h1 with h | h
    · exact absurd h h0
    · exact absurd h h23
theorem allV_ct {v v2 : Nat → List Vt} (h : ∀ i, i < 16 → (v2 i).map Vt.ct = (v i).map Vt.ct) : ∀ k, k ≤ 16 → (allV v2 k).map Vt.ct = (allV v k).map Vt.ct
  | 0, _ => rfl
  | k + 1, hk => by rw [allV_succ, allV_succ, List.map_append, List.map_append, allV_ct h k (by omega), h k (by omega)]
theorem wp_neq_err {o : Oper} {a : Act} {w : World} {K : Act → World → Prop} {Q : Exit → Act → World → Prop} (t' : TypeId) (x y : Operand) (ho : o.op = .binOp .neq 45 x y t') (m n : Int) (hx : a.eval x = .int .i64 m) (hy : a.eval y = .int .i64 n) (h : K (a.put o.dst (.bool (!decide (m = n)))) w) : o.wp Try.prog a w K Q := by
  unfold Oper.wp
  obtain ⟨ev, hev⟩ : ∃ ev, ev = a.eval := ⟨_, rfl⟩
  rw [← hev] at hx hy ⊢
  clear hev
  unfold execOp
  simp only [ho]
  simp [hx, hy, go_sem]
  go_simp
  exact h
end Go.Proofs.Ytmjfnpmnhehnkaa
