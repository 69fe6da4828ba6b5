/- Un -/
import Derived.Test.YtmjfnpmnhehnkaaQbb
import Derived.Test.YtmjfnpmnhehnkaaQbb
namespace Go.Proofs.Ytmjfnpmnhehnkaa
open Go.RowKit
theorem doC_changed {c : Vc} {q : Qc} (hq : q.right = true) (hk : Kept q.id c) (h : (doC c q).2.2 = true) : (doC c q).1.right = true ∧ (doC c q).1.id = q.id := by
  have hf := (do_facts hq hk (v' := (doC c q).1) (r' := (doC c q).2.1) (b := (doC c q).2.2) rfl).kept
  rcases hf with h0 | h0
  · exfalso
    have hK := do_kind hq hk
    have hge := Kept.gen hk
    generalize (doC c q).1 = x at h0 hK
    generalize (doC c q).2.1 = y at hK
    rw [h] at hK
    have hg : zeroVc.gen = 0 := rfl
    cases hK with
    | fresh ho hg2 =>
      have h2 := congrArg Vc.gen h0
      have h3 : (freshC c q).gen = c.gen + 1 := rfl
      omega
    | wrong ho hv hg2 =>
      have h2 := congrArg Vc.gen h0
      rw [(wrong_gen c).1] at h2
      have := right_gen hv
      omega
    | removed ho hv hg2 =>
      have h2 := congrArg Vc.gen h0
      have h3 : (goneC c.id c.gen false).gen = c.gen := rfl
      have := right_gen hv
      omega
  exact h0
def Home (v : Nat → List Vt) : Prop := ∀ i, i < 16 → ∀ x ∈ v i, Sm.shV x.id = (i : Int)
theorem Home.none {v : Nat → List Vt} (h : ∀ i, i < 16 → v i = []) : Home v := fun i hi x hx => by rw [h i hi] at hx; simp at hx
/-- what's under an ID -/
def Cur (vs : List Vt) (id : List UInt8) (c : Vc) : Prop := (c = zeroVc ∧ ∀ x ∈ vs, x.id ≠ id) ∨ ∃ x ∈ vs, x.ct = c ∧ x.id = id
/-- one put in the place of what had its ID -/
def Repl (vs ls : List Vt) (x : Vc) : Prop := ∀ c, c ∈ ls.map Vt.ct ↔ c = x ∨ (c ∈ vs.map Vt.ct ∧ c.id ≠ x.id)
structure Tidy (vs : List Vt) : Prop where
  srt : ∀ i j, i < j → j < vs.length → idF vs i < idF vs j
  idl : ∀ x ∈ vs, x.id.length = 4
  right : ∀ x ∈ vs, x.ct.right = true
  len : vs.length ≤ 4
theorem IM.tidy {w : World} {B M : Nat} {D : Nat → Nat} {r : Nat → Value} {v : Nat → List Vt} (h : IM w B M D r v) (hr : RightV v) {i : Nat} (hi : i < 16) : Tidy (v i) :=
  ⟨(h.ts.tb i hi).srt, fun x hx => by
    obtain ⟨j, hj, e⟩ := List.getElem_of_mem hx
    exact ((h.ts.tb i hi).row.ins j x (by rw [List.getElem?_eq_getElem hj, e])).ok.idN, fun x hx => by
    obtain ⟨j, hj, e⟩ := List.getElem_of_mem hx
    exact hr i hi j x (by rw [List.getElem?_eq_getElem hj, e]), (h.ts.tb i hi).len⟩
theorem Tidy.inj {vs : List Vt} (h : Tidy vs) {i j : Nat} (hi : i < vs.length) (hj : j < vs.length) (e : idF vs i = idF vs j) : i = j := by
  rcases Nat.lt_trichotomy i j with h1 | h1 | h1
  · have := h.srt i j h1 hj; omega
  · exact h1
  have := h.srt j i h1 hi; omega
theorem idF_get {vs : List Vt} {i : Nat} (hi : i < vs.length) : idF vs i = idn vs[i].id := idF_at vs i vs[i] (List.getElem?_eq_getElem hi)
theorem cur_of {vs : List Vt} (h : Tidy vs) {id : List UInt8} (hid : id.length = 4) {c : Vc} {b : Bool} (hg : GetDet vs (idn id) c b) : Cur vs id c ∧ (b = true ↔ c ≠ zeroVc) ∧ (c = zeroVc ∨ (c.right = true ∧ c.id = id)) := by
  cases b with
  | false =>
    refine ⟨Or.inl ⟨hg.2.2 rfl, fun x hx e => ?_⟩, ⟨(fun h => by cases h), fun h => absurd (hg.2.2 rfl) h⟩, Or.inl (hg.2.2 rfl)⟩
    obtain ⟨j, hj, e2⟩ := List.getElem_of_mem hx
    have := of_decide_eq_false hg.1.symm
    exact this ⟨j, hj, by rw [idF_get hj, e2, e]⟩
  | true =>
    obtain ⟨q, y, h1, h2, h3⟩ := hg.2.1 rfl
    have hm : y ∈ vs := List.mem_of_getElem? h1
    have hy : y.id = id := idn_inj (h.idl y hm) hid (by rw [← idF_at vs q y h1, h2])
    have hr := h.right y hm
    refine ⟨Or.inr ⟨y, hm, h3.symm, hy⟩, ⟨fun _ e => ?_, fun _ => rfl⟩, Or.inr ⟨by rw [h3]; exact hr, by rw [h3]; exact hy⟩⟩
    rw [h3] at e; rw [e] at hr; exact absurd hr (by decide)
theorem put_repl {vs ls : List Vt} {x : Vt} (h : Tidy vs) (hx : x.id.length = 4) (hr : x.ct.right = true) (hp : PutRel vs x ls) (hf : (∃ y ∈ vs, y.id = x.id) ∨ vs.length < 4) : Repl vs ls x.ct := by
  have at_id : ∀ (i : Nat) (hi : i < vs.length), idF vs i = idn x.id ↔ vs[i].id = x.id := fun i hi => by
    rw [idF_get hi]
    exact ⟨fun e => idn_inj (h.idl _ (List.getElem_mem hi)) hx e, fun e => by rw [e]⟩
  rcases hp with ⟨h1, _⟩ | ⟨_, p, z, _, hz, ⟨p1, p2, rfl⟩ | ⟨p1, p2, rfl⟩ | ⟨p1, p2, rfl⟩⟩
  · rw [hr] at h1; cases h1
  · intro c
    constructor
    · intro hc
      obtain ⟨y, hy, rfl⟩ := List.mem_map.1 hc
      obtain ⟨i, hi, e⟩ := List.getElem_of_mem hy
      by_cases hip : p = i
      · subst hip
        rw [List.getElem_set_self] at e
        exact Or.inl (by rw [← e, hz])
      rw [List.getElem_set_ne hip] at e
      rw [List.length_set] at hi
      refine Or.inr ⟨List.mem_map.2 ⟨y, e ▸ List.getElem_mem hi, rfl⟩, fun he => hip ?_⟩
      have he : y.id = x.id := he
      exact h.inj p1 hi (by rw [p2, (at_id i hi).2 (by rw [e, he])])
    rintro (rfl | ⟨hc, hne⟩)
    · exact List.mem_map.2 ⟨z, List.mem_iff_getElem.2 ⟨p, by rw [List.length_set]; exact p1, List.getElem_set_self _⟩, hz⟩
    obtain ⟨y, hy, rfl⟩ := List.mem_map.1 hc
    obtain ⟨i, hi, e⟩ := List.getElem_of_mem hy
    refine List.mem_map.2 ⟨y, List.mem_iff_getElem.2 ⟨i, by rw [List.length_set]; exact hi, ?_⟩, rfl⟩
    have hip : p ≠ i := fun e2 => by
      subst e2
      exact hne (show y.id = x.id by rw [← e]; exact (at_id p hi).1 p2)
    rw [List.getElem_set_ne hip, e]
  · exfalso
    rcases hf with ⟨y, hy, he⟩ | hf
    · obtain ⟨i, hi, e⟩ := List.getElem_of_mem hy
      exact p1 ⟨i, hi, (at_id i hi).2 (by rw [e, he])⟩
    omega
  intro c
  have hno : ∀ y ∈ vs, y.id ≠ x.id := fun y hy he => by
    obtain ⟨i, hi, e⟩ := List.getElem_of_mem hy
    exact p1 ⟨i, hi, (at_id i hi).2 (by rw [e, he])⟩
  have hm : ∀ y, y ∈ vs.take p ++ z :: vs.drop p ↔ y = z ∨ y ∈ vs := fun y => by
    rw [List.mem_append, List.mem_cons]
    have : y ∈ vs ↔ y ∈ vs.take p ∨ y ∈ vs.drop p := by rw [← List.mem_append, List.take_append_drop]
    rw [this]
    constructor
    · rintro (h | h | h)
      · exact Or.inr (Or.inl h)
      · exact Or.inl h
      exact Or.inr (Or.inr h)
    rintro (h | h | h)
    · exact Or.inr (Or.inl h)
    · exact Or.inl h
    exact Or.inr (Or.inr h)
  constructor
  · intro hc
    obtain ⟨y, hy, rfl⟩ := List.mem_map.1 hc
    rcases (hm y).1 hy with rfl | hy
    · exact Or.inl hz
    exact Or.inr ⟨List.mem_map.2 ⟨y, hy, rfl⟩, hno y hy⟩
  rintro (rfl | ⟨hc, _⟩)
  · exact List.mem_map.2 ⟨z, (hm z).2 (Or.inl rfl), hz⟩
  obtain ⟨y, hy, rfl⟩ := List.mem_map.1 hc
  exact List.mem_map.2 ⟨y, (hm y).2 (Or.inr hy), rfl⟩
/-- a step, by what's under the ID -/
theorem istep_cur {v v' : Nat → List Vt} {s : Nat} {q : Qc} {y : Rc} (ht : Tidy (v s)) (hid : q.id.length = 4) (hq : q.right = true) (h : IStep v s q y v') :
    ∃ c, Cur (v s) q.id c ∧ Kept q.id c ∧
      (((doC c q).2.2 = false ∧ y = (doC c q).2.1 ∧ v' = v) ∨
       ((doC c q).2.2 = true ∧ c = zeroVc ∧ 4 ≤ (v s).length ∧ y = (repRt 13 q.id q.client q.num).ct ∧ v' = v) ∨
       ((doC c q).2.2 = true ∧ (c ≠ zeroVc ∨ (v s).length < 4) ∧ y = (doC c q).2.1 ∧ ∃ ls, v' = updF v s ls ∧ Repl (v s) ls (doC c q).1)) := by
  rcases h with ⟨h1, _⟩ | ⟨_, c, b, hg, h⟩
  · rw [hq] at h1; cases h1
  obtain ⟨h1, h2, h3⟩ := cur_of ht hid hg
  refine ⟨c, h1, h3, ?_⟩
  rcases h with h | ⟨a1, a2, a3, a4, a5⟩ | ⟨a1, a2, a3, x, ls, a4, a5, a6⟩
  · exact Or.inl h
  · refine Or.inr (Or.inl ⟨a1, ?_, a3, a4, a5⟩)
    cases hc : decide (c = zeroVc) with
    | true => exact of_decide_eq_true hc
    | false => rw [h2.2 (of_decide_eq_false hc)] at a2; cases a2
  obtain ⟨r1, r2⟩ := doC_changed hq h3 a1
  refine Or.inr (Or.inr ⟨a1, a2.imp (fun h => h2.1 h) id, a3, ls, a6, ?_⟩)
  rw [← a4] at r1 r2 ⊢
  have r2 : x.id = q.id := r2
  refine put_repl ht (by rw [r2]; exact hid) r1 a5 ?_
  rcases a2 with hb | hb
  · rcases h1 with ⟨h0, _⟩ | ⟨z, hz, _, hz2⟩
    · exact absurd h0 (h2.1 hb)
    exact Or.inl ⟨z, hz, by rw [hz2, r2]⟩
  exact Or.inr hb
theorem Home.step {v : Nat → List Vt} {s : Nat} {ls : List Vt} {x : Vc} (h : Home v) (hr : Repl (v s) ls x) (hx : Sm.shV x.id = (s : Int)) : Home (updF v s ls) := fun i hi y hy => by
  by_cases e : i = s
  · subst e
    rw [updF_same] at hy
    rcases (hr y.ct).1 (List.mem_map.2 ⟨y, hy, rfl⟩) with h1 | ⟨h1, _⟩
    · rw [show y.id = x.id from congrArg Vc.id h1]; exact hx
    obtain ⟨z, hz, e2⟩ := List.mem_map.1 h1
    rw [← show z.id = y.id from congrArg Vc.id e2]; exact h i hi z hz
  rw [updF_ne _ _ e] at hy; exact h i hi y hy
end Go.Proofs.Ytmjfnpmnhehnkaa
