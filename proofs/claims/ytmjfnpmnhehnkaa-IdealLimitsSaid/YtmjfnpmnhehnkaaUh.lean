/- regions in which the world is turned more than once: values by predicates without a world, one predicate of what is listed, the values and the world -/
import Derived.Test.YtmjfnpmnhehnkaaFlX
import Derived.Test.YtmjfnpmnhehnkaaUg
namespace Go.Proofs.Ytmjfnpmnhehnkaa
open Go.RowKit
structure JS (T : List (Value → Prop)) (prs : List (Nat × Nat)) (St : Array Bool → (Nat → Value) → World → Prop) (listed : Array Bool) (f : Nat → Value) (w : World) : Prop where
  vals : ∀ i, listed.getD i false = true → (T.getD i (fun _ => True)) (f i)
  st : St listed f w
  ord : ∀ x ∈ prs, listed.getD x.1 false = true → listed.getD x.2 false = true
section
variable {T : List (Value → Prop)} {prs : List (Nat × Nat)} {St : Array Bool → (Nat → Value) → World → Prop}
theorem JS.start {w : World} (listed : Array Bool) (f : Nat → Value) (h0 : ∀ i, listed.getD i false = false) (hs : St listed f w) : JS T prs St listed f w :=
  ⟨fun i hi => absurd hi (by rw [h0 i]; decide), hs, fun x _ hx => absurd hx (by rw [h0 x.1]; decide)⟩
theorem JS.next {listed : Array Bool} {f : Nat → Value} {w w' : World} (h : JS T prs St listed f w) {i : Nat} (hi : i < listed.size) {v : Value} (hv : (T.getD i (fun _ => True)) v) (hs : St (listed.setIfInBounds i true) (upd f i v) w') (ho : ∀ x ∈ prs, x.1 = i → listed.getD x.2 false = true) :
    JS T prs St (listed.setIfInBounds i true) (upd f i v) w' := by
  have mono : ∀ c, listed.getD c false = true → (listed.setIfInBounds i true).getD c false = true := fun c hc => by
    by_cases e : i = c
    · subst e; exact set_new hi
    · rw [gset e false]; exact hc
  refine ⟨fun j hj => ?_, hs, fun x hx h1 => ?_⟩
  · by_cases e : j = i
    · subst e; rw [upd_same]; exact hv
    · rw [upd_ne _ _ e]
      refine h.vals j ?_
      rcases listed_set hj with rfl | hj
      · exact absurd rfl e
      · exact hj
  · rcases listed_set h1 with e | h1
    · exact mono _ (ho x hx e)
    · exact mono _ (h.ord x hx h1)
/-- what is listed at the end -/
theorem JS.last {listed : Array Bool} {f : Nat → Value} {w : World} (h : JS T prs St listed f w) {i : Nat} (hi : listed.getD i false = true) : (T.getD i (fun _ => True)) (f i) := h.vals i hi
end
def k3q (g : Nat) : Qt := ⟨1, [1, 0, 0, 0], z16, ⟨some ⟨g, 0, none⟩, 1, [115]⟩, 2, z16, z16, 0, 0⟩
def k3r : Qt := ⟨2, [2, 0, 0, 0], z16, nilB, 0, z16, z16, 0, 0⟩
def k3z : Vc := (doC zeroVc (k3q 0).ct).1
theorem k3_right : (k3q 0).ct.right = true := by decide
theorem k3r_right : k3r.ct.right = true := by decide
theorem k3_do1 : (doC zeroVc (k3q 0).ct).2.2 = true ∧ (doC zeroVc (k3q 0).ct).2.1.why = 0 ∧ (doC zeroVc (k3q 0).ct).2.1.gen = 1 ∧ k3z.right = true ∧ k3z.id = [1, 0, 0, 0] := by decide
theorem k3_do2 : (doC k3z (k3q 0).ct).2.2 = false ∧ (doC k3z (k3q 0).ct).2.1.why = 14 := by decide
theorem k3_do3 : (doC zeroVc k3r.ct).2.2 = false ∧ (doC zeroVc k3r.ct).2.1.why = 22 := by decide
theorem getdet_nil {X : Nat} {c : Vc} {b : Bool} (h : GetDet [] X c b) : c = zeroVc ∧ b = false := by
  have hb : b = false := by rw [h.1]; exact decide_eq_false (fun ⟨q, hq, _⟩ => absurd hq (Nat.not_lt_zero q))
  exact ⟨h.2.2 hb, hb⟩
theorem getdet_one {x : Vt} {X : Nat} {c : Vc} {b : Bool} (h : GetDet [x] X c b) : (idn x.id = X → c = x.ct ∧ b = true) ∧ (idn x.id ≠ X → c = zeroVc ∧ b = false) := by
  have e : idF [x] 0 = idn x.id := idF_at [x] 0 x rfl
  constructor
  · intro hx
    have hb : b = true := by rw [h.1]; exact decide_eq_true ⟨0, by simp, by rw [e, hx]⟩
    obtain ⟨q, y, h1, h2, h3⟩ := h.2.1 hb
    have hq : q = 0 := by have := (List.getElem?_eq_some_iff.1 h1).1; simp at this; exact this
    subst hq
    have hy : x = y := by simpa using h1
    exact ⟨by rw [h3, hy], hb⟩
  · intro hx
    have hb : b = false := by
      rw [h.1]
      refine decide_eq_false (fun ⟨q, hq, h2⟩ => ?_)
      have hq : q = 0 := by simpa using hq
      subst hq
      exact hx (by rw [← e, h2])
    exact ⟨h.2.2 hb, hb⟩
theorem allV_one {v : Nat → List Vt} {s : Nat} (hs : s < 16) (h1 : (v s).length = 1) (h0 : ∀ i, i < 16 → i ≠ s → v i = []) : ∀ k, k ≤ 16 → (allV v k).length = if s < k then 1 else 0
  | 0, _ => by rw [if_neg (Nat.not_lt_zero s)]; rfl
  | k + 1, hk => by
    rw [allV_succ, List.length_append, allV_one hs h1 h0 k (by omega)]
    by_cases e : k = s
    · subst e; rw [h1, if_neg (by omega), if_pos (by omega)]
    · rw [h0 k (by omega) e]
      by_cases e2 : s < k
      · rw [if_pos e2, if_pos (by omega)]; rfl
      · rw [if_neg e2, if_neg (by omega)]; rfl
/-- the first Do: a vault is kept -/
theorem k3_step1 {v v' : Nat → List Vt} {s g : Nat} {y : Rc} (hv : ∀ i, i < 16 → v i = []) (hs : s < 16) (h : IStep v s (k3q g).ct y v') : y.why = 0 ∧ y.gen = 1 ∧ ∃ z : Vt, z.ct = k3z ∧ v' = updF v s [z] := by
  have hc : (k3q g).ct = (k3q 0).ct := rfl
  rw [hc] at h
  rcases h with ⟨h1, _⟩ | ⟨_, c, b, hg, h⟩
  · rw [k3_right] at h1; cases h1
  · rw [hv s hs] at hg h
    obtain ⟨rfl, rfl⟩ := getdet_nil hg
    rcases h with ⟨h1, _⟩ | ⟨_, _, h1, _⟩ | ⟨_, _, h1, x, ls, hx, hp, rfl⟩
    · rw [k3_do1.1] at h1; cases h1
    · exact absurd h1 (by decide)
    · refine ⟨by rw [h1]; exact k3_do1.2.1, by rw [h1]; exact k3_do1.2.2.1, ?_⟩
      have hx : x.ct = k3z := hx
      rcases hp with ⟨h2, _⟩ | ⟨_, p, z, _, hz, ⟨h2, _⟩ | ⟨_, h2, _⟩ | ⟨_, _, rfl⟩⟩
      · rw [hx, k3_do1.2.2.2.1] at h2; cases h2
      · exact absurd h2 (Nat.not_lt_zero p)
      · exact absurd h2 (by decide)
      · exact ⟨z, by rw [hz, hx], by simp⟩
/-- the second: it's there -/
theorem k3_step2 {v v' : Nat → List Vt} {s g : Nat} {y : Rc} {z : Vt} (hz : z.ct = k3z) (hv : v s = [z]) (h : IStep v s (k3q g).ct y v') : y.why = 14 ∧ v' = v := by
  have hc : (k3q g).ct = (k3q 0).ct := rfl
  rw [hc] at h
  rcases h with ⟨h1, _⟩ | ⟨_, c, b, hg, h⟩
  · rw [k3_right] at h1; cases h1
  · rw [hv] at hg h
    obtain ⟨rfl, rfl⟩ := (getdet_one hg).1 (by rw [show z.id = [1, 0, 0, 0] from (congrArg Vc.id hz).trans k3_do1.2.2.2.2]; rfl)
    rw [hz] at h
    rcases h with ⟨_, h1, h2⟩ | ⟨h1, _⟩ | ⟨h1, _⟩
    · exact ⟨by rw [h1]; exact k3_do2.2, h2⟩
    · rw [k3_do2.1] at h1; cases h1
    · rw [k3_do2.1] at h1; cases h1
/-- the third: another ID has none -/
theorem k3_step3 {v v' : Nat → List Vt} {s : Nat} {y : Rc} {z : Vt} (hz : z.ct = k3z) (hv : v s = [] ∨ v s = [z]) (h : IStep v s k3r.ct y v') : y.why = 22 ∧ v' = v := by
  rcases h with ⟨h1, _⟩ | ⟨_, c, b, hg, h⟩
  · rw [k3r_right] at h1; cases h1
  · have hc : c = zeroVc ∧ b = false := by
      rcases hv with hv | hv
      · rw [hv] at hg; exact getdet_nil hg
      · rw [hv] at hg
        refine (getdet_one hg).2 ?_
        rw [show z.id = [1, 0, 0, 0] from (congrArg Vc.id hz).trans k3_do1.2.2.2.2]
        decide
    obtain ⟨rfl, rfl⟩ := hc
    rcases h with ⟨_, h1, h2⟩ | ⟨h1, _⟩ | ⟨h1, _⟩
    · exact ⟨by rw [h1]; exact k3_do3.2, h2⟩
    · rw [k3_do3.1] at h1; cases h1
    · rw [k3_do3.1] at h1; cases h1
theorem k3bi : Try.prog.built 32 [(0, .int .u8 1)] = some (Lib.byteCells [1, 0, 0, 0]).toArray := by kernel_rfl
theorem k3b2 : Try.prog.built 32 [(0, .int .u8 2)] = some (Lib.byteCells [2, 0, 0, 0]).toArray := by kernel_rfl
theorem k3b (g : Nat) : Try.prog.built 86 [(0, .int .i64 1), (1, digV [1, 0, 0, 0]), (4, .int .i64 2), (3, .slice (some ⟨g, 0, none⟩) 1 1)] = some (k3q g).C.toArray := by kernel_rfl
theorem k3br : Try.prog.built 86 [(0, .int .i64 2), (1, digV [2, 0, 0, 0])] = some k3r.C.toArray := by kernel_rfl
theorem k3q_ok (g : Nat) : (k3q g).Ok := by
  constructor
  all_goals (unfold k3q; simp only; decide)
theorem k3r_ok : k3r.Ok := by
  constructor
  all_goals (unfold k3r; simp only; decide)
/-- the secret of one letter, where it lies -/
theorem k3_sec {w : World} {g : Nat} {fr : Nat × Nat} (h : w.heap[g]? = some (.cells #[.int .u8 115] 5 fr)) : (Pt.mk (some ⟨g, 0, none⟩) 1 [115]).In w w.heap.size :=
  ⟨Nat.le_refl _, (fun h => by cases h), fun _ => ⟨g, 0, rfl, (Array.getElem?_eq_some_iff.1 h).1, fun i hi => by
    have hi : i = 0 := by have : i < 1 := hi; omega
    subst hi
    simp [World.cell?, h]⟩⟩
end Go.Proofs.Ytmjfnpmnhehnkaa
