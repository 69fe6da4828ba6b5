/- ideal maps: what stays true of them; two beside one another -/
import Derived.Test.YtmjfnpmnhehnkaaUf
namespace Go.Proofs.Ytmjfnpmnhehnkaa
open Go.RowKit
def RightV (v : Nat → List Vt) : Prop := ∀ i, i < 16 → ∀ (j : Nat) (x : Vt), (v i)[j]? = some x → x.ct.right = true
theorem RightV.none {v : Nat → List Vt} (h : ∀ i, i < 16 → v i = []) : RightV v := fun i hi j x hx => by rw [h i hi] at hx; simp at hx
theorem IM.rising {w : World} {B M : Nat} {D : Nat → Nat} {r : Nat → Value} {v : Nat → List Vt} (h : IM w B M D r v) (hr : RightV v) (i : Nat) (hi : i < 16) : Rising (v i) :=
  ⟨(h.ts.tb i hi).len, fun j x hx => hr i hi j x hx, fun j hj => (h.ts.tb i hi).srt j (j + 1) (Nat.lt_succ_self j) hj⟩
theorem RightV.ct {v v2 : Nat → List Vt} (h : ∀ i, i < 16 → (v2 i).map Vt.ct = (v i).map Vt.ct) (hr : RightV v) : RightV v2 := fun i hi j x hx => by
  have e : ((v2 i).map Vt.ct)[j]? = ((v i).map Vt.ct)[j]? := by rw [h i hi]
  rw [List.getElem?_map, List.getElem?_map, hx] at e
  cases hy : (v i)[j]? with
  | none => rw [hy] at e; cases e
  | some y =>
    rw [hy] at e
    have e : x.ct = y.ct := by simpa using e
    rw [e]; exact hr i hi j y hy
theorem PutRel.right {vs ls : List Vt} {x : Vt} (h : PutRel vs x ls) (hv : ∀ (j : Nat) (y : Vt), vs[j]? = some y → y.ct.right = true) (j : Nat) (y : Vt) (hy : ls[j]? = some y) : y.ct.right = true := by
  have mem : ∀ y ∈ vs, y.ct.right = true := fun y hm => by
    obtain ⟨i, hi, e⟩ := List.getElem_of_mem hm
    exact hv i y (by rw [List.getElem?_eq_getElem hi, e])
  rcases h with ⟨_, rfl⟩ | ⟨hx, p, z, _, hz, ⟨_, _, rfl⟩ | ⟨_, _, rfl⟩ | ⟨_, _, rfl⟩⟩
  · exact hv j y hy
  · rcases List.mem_or_eq_of_mem_set (List.mem_of_getElem? hy) with hm | rfl
    · exact mem y hm
    · rw [hz]; exact hx
  · exact hv j y hy
  · rcases List.mem_append.1 (List.mem_of_getElem? hy) with hm | hm
    · exact mem y (List.mem_of_mem_take hm)
    · rcases List.mem_cons.1 hm with rfl | hm
      · rw [hz]; exact hx
      · exact mem y (List.mem_of_mem_drop hm)
theorem IStep.right {v v' : Nat → List Vt} {s : Nat} {q : Qc} {y : Rc} (h : IStep v s q y v') (hs : s < 16) (hr : RightV v) : RightV v' := by
  rcases h with ⟨_, _, rfl⟩ | ⟨_, c, b, _, ⟨_, _, rfl⟩ | ⟨_, _, _, _, rfl⟩ | ⟨_, _, _, x, ls, _, hp, rfl⟩⟩
  · exact hr
  · exact hr
  · exact hr
  · intro i hi j y hy
    by_cases e : i = s
    · subst e; rw [updF_same] at hy; exact hp.right (hr i hi) j y hy
    · rw [updF_ne _ _ e] at hy; exact hr i hi j y hy
/-- two ideal maps with no block in common -/
structure Apart (D : Nat → Nat) (r : Nat → Value) (D2 : Nat → Nat) (r2 : Nat → Value) : Prop where
  dd : ∀ i j, i < 16 → j < 16 → D i ≠ D2 j
  rr : ∀ i j, i < 16 → j < 16 → Djn (r i) (r2 j)
/-- a map that is not the one turned stays -/
theorem IM.other {w w' : World} {B M B2 M2 s : Nat} {D D2 : Nat → Nat} {r r2 : Nat → Value} {v v2 : Nat → List Vt} (h : IM w B M D r v) (h2 : IM w B2 M2 D2 r2 v2) (hs : s < 16) (k : Tc (D s) (r s).ownBlock w w') (ha : Apart D r D2 r2) : IM w' B2 M2 D2 r2 v2 :=
  ⟨k.kt9 (h.ts.tb s hs) h2.blk (by decide) (by decide), ⟨fun i hi => (h2.ts.tb i hi).other (h.ts.tb s hs) k (fun e => ha.dd s i hs hi e.symm) (ha.rr s i hs hi).symm, h2.ts.lo, h2.ts.dd, h2.ts.rr⟩⟩
/-- a map made later is apart from one that was there -/
theorem IM.apart {w w' : World} {B M B2 M2 : Nat} {D D2 : Nat → Nat} {r r2 : Nat → Value} {v v2 : Nat → List Vt} (h : IM w B M D r v) (h2 : IM w' B2 M2 D2 r2 v2) (hB : w.heap.size ≤ B2) : Apart D r D2 r2 := by
  refine ⟨fun i j hi hj e => ?_, fun i j hi hj g hg hg2 => ?_⟩
  · have h3 := (h.ts.tb i hi).blk.lt
    have h4 := h2.ts.lo j hj
    omega
  · have h3 := ((h.ts.tb i hi).row.row.lt g hg).2
    have h4 := ((h2.ts.tb j hj).row.row.lt g hg2).1
    have h5 := h2.ts.lo j hj
    omega
end Go.Proofs.Ytmjfnpmnhehnkaa
