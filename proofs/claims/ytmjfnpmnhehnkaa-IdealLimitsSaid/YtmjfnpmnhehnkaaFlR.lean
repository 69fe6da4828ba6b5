/- regions in which rows are appended to: an assertion for each operation, till an operation consumes what it gave -/
import Derived.Test.YtmjfnpmnhehnkaaFlG
import Derived.Test.YtmjfnpmnhehnkaaVa
namespace Go.Proofs.Ytmjfnpmnhehnkaa
open Go.RowKit
/-- blocks below B, and those of types that are not in S, are as they were -/
structure Kt (S : List Nat) (B : Nat) (w w' : World) : Prop where
  below : Below B w w'
  typ : ∀ (h : Nat) (cs : Array Value) (t : TypeId) (fr : Nat × Nat), w.heap[h]? = some (.cells cs t fr) → t ∉ S → w'.heap[h]? = some (.cells cs t fr)
theorem Kt.size {S : List Nat} {B : Nat} {w w' : World} (h : Kt S B w w') : w.heap.size ≤ w'.heap.size := h.below.size
theorem Kt.refl (S : List Nat) (B : Nat) (w : World) : Kt S B w w := ⟨Below.refl _ _, fun _ _ _ _ h _ => h⟩
theorem Kt.trans {S : List Nat} {B : Nat} {a b c : World} (h : Kt S B a b) (k : Kt S B b c) : Kt S B a c := ⟨h.below.trans k.below, fun i cs t fr hi h1 => k.typ i cs t fr (h.typ i cs t fr hi h1) h1⟩
theorem Kt.mono {S S' : List Nat} {B : Nat} {a b : World} (h : Kt S B a b) (hs : ∀ x ∈ S, x ∈ S') : Kt S' B a b := ⟨h.below, fun i cs t fr hi h1 => h.typ i cs t fr hi (fun hx => h1 (hs _ hx))⟩
theorem blk_lt {w : World} {g : Nat} {o : Obj} (h : w.heap[g]? = some o) : g < w.heap.size := (Array.getElem?_eq_some_iff.1 h).1
theorem Ex.kt {S : List Nat} {B : Nat} {w w' : World} (h : Ex w w') (hB : B ≤ w.heap.size) : Kt S B w w' := ⟨h.mono hB, fun i _ _ _ hi _ => (h.block i (blk_lt hi)).trans hi⟩
theorem Kt.bk {S : List Nat} {B g : Nat} {w w' : World} {t : TypeId} {cs : Array Value} (h : Kt S B w w') (hb : Bk w g t cs) (ht : t ∉ S) : Bk w' g t cs := h.typ _ _ _ _ hb ht
theorem Kt.grown {w w' : World} {B : Nat} {e : TypeId} {sz n : Nat} {v : Value} {xs : List Value} (h : w.ownsRow B e sz v n xs) (k : w.grownBy w' v.ownBlock) (hB : B ≤ w.heap.size) : Kt [e] B w w' := by
  refine ⟨(Below.refl B w).grown k hB (fun j hj => (h.lt j hj).1), fun i cs t fr hi h1 => (k.block i (blk_lt hi) ?_).trans hi⟩
  intro he
  obtain ⟨_, ⟨hv, _⟩ | ⟨g, cap, cur, hv, _, hg, _⟩⟩ := h
  · rw [hv] at he; cases he
  · rw [hv] at he
    obtain rfl : i = g := by simpa [Value.ownBlock] using he
    rw [hg] at hi
    injection hi with hi
    injection hi with _ h2
    exact h1 (by rw [← h2]; exact List.mem_singleton.2 rfl)
theorem Kt.md {S : List Nat} {B g : Nat} {w w' : World} {t : TypeId} {cs : Array Value} (k : Md g w w') (hg : B ≤ g) (hb : Bk w g t cs) (ht : t ∈ S) : Kt S B w w' :=
  ⟨k.below B hg _ (Below.refl _ _), fun i cs' t' fr hi h1 => by
    refine (k.other i ?_ (blk_lt hi)).trans hi
    rintro rfl
    unfold Bk at hb
    rw [hb] at hi
    injection hi with hi
    injection hi with _ hi
    exact h1 (by rw [← hi]; exact ht)⟩
theorem Kt.row {S : List Nat} {B B' : Nat} {w w' : World} {e : TypeId} {sz n : Nat} {v : Value} {xs : List Value} (k : Kt S B w w') (h : w.ownsRow B' e sz v n xs) (he : e ∉ S) : w'.ownsRow B' e sz v n xs := by
  refine ⟨h.1, h.2.imp id fun ⟨g, cap, cur, hv, hb, hg, hr⟩ => ⟨g, cap, cur, hv, hb, k.typ _ _ _ _ hg he, hr⟩⟩
theorem Ex.row {B' : Nat} {w w' : World} {e : TypeId} {sz n : Nat} {v : Value} {xs : List Value} (k : Ex w w') (h : w.ownsRow B' e sz v n xs) : w'.ownsRow B' e sz v n xs :=
  (Ex.kt (S := []) (B := 0) k (Nat.zero_le _)).row h (by simp)
/-- what is claimed of a value, stable where blocks of other types than its own are turned -/
structure Rv (B : Nat) where
  ty : Nat
  holds : Value → World → Prop
  stab : ∀ S v w w', holds v w → Kt S B w w' → ty ∉ S → holds v w'
def Rv.is {B : Nat} (x : Value) : Rv B := ⟨0, fun v _ => v = x, fun _ _ _ _ h _ _ => h⟩
def Rv.any {B : Nat} : Rv B := ⟨0, fun _ _ => True, fun _ _ _ _ _ _ _ => trivial⟩
def Rv.own {B : Nat} (e : TypeId) (sz n : Nat) (xs : List Value) : Rv B := ⟨e, fun v w => w.ownsRow B e sz v n xs, fun _ _ _ _ h k hs => k.row h hs⟩
theorem set_falseR {l : Array Bool} {i k : Nat} (h : (l.setIfInBounds i true).getD k false = false) : l.getD k false = false := by
  by_cases e : i = k
  · subst e
    rw [Array.getD_eq_getD_getElem?] at h ⊢
    by_cases hi : i < l.size
    · rw [Array.getElem?_setIfInBounds_self_of_lt hi] at h; cases h
    · rw [Array.getElem?_eq_none (by omega)]; rfl
  · rw [gset e false] at h; exact h
structure JR (B : Nat) (base : World) (S : List Nat) (T : List (Rv B)) (tys : List Nat) (cons : List (Option Nat)) (prs : List (Nat × Nat)) (listed : Array Bool) (f : Nat → Value) (w : World) : Prop where
  lo : B ≤ w.heap.size
  ext : Kt S B base w
  vals : ∀ i, listed.getD i false = true → (∀ c, cons.getD i none = some c → listed.getD c false = false) → (T.getD i .any).holds (f i) w
  ord : ∀ x ∈ prs, listed.getD x.1 false = true → listed.getD x.2 false = true
theorem JR.start {B : Nat} {base : World} {S : List Nat} {T : List (Rv B)} {tys : List Nat} {cons : List (Option Nat)} {prs : List (Nat × Nat)} (hB : B ≤ base.heap.size) (listed : Array Bool) (f : Nat → Value) (h0 : ∀ i, listed.getD i false = false) : JR B base S T tys cons prs listed f base.drew :=
  ⟨hB, Ex.kt (show Ex base base.drew from (Below.refl base.heap.size base).drew) hB, fun i hi => absurd hi (by rw [h0 i]; decide), fun x _ hx => absurd hx (by rw [h0 x.1]; decide)⟩
theorem JR.next {B : Nat} {base : World} {S : List Nat} {T : List (Rv B)} {tys : List Nat} {cons : List (Option Nat)} {prs : List (Nat × Nat)} {listed : Array Bool} {f : Nat → Value} {w w' : World} (h : JR B base S T tys cons prs listed f w)
    (hty : T.map Rv.ty = tys) {i : Nat} (hi : i < listed.size) {v : Value} (S' : List Nat) (hS : ∀ x ∈ S', x ∈ S) (h0 : 0 ∉ S') (k : Kt S' B w w') (hv : (T.getD i .any).holds v w')
    (hc : ∀ j, j ≠ i → tys.getD j 0 ∈ S' → listed.getD j false = true → ∃ c, cons.getD j none = some c ∧ (c = i ∨ listed.getD c false = true))
    (ho : ∀ x ∈ prs, x.1 = i → listed.getD x.2 false = true) : JR B base S T tys cons prs (listed.setIfInBounds i true) (upd f i v) w' := by
  have new : (listed.setIfInBounds i true).getD i false = true := by
    rw [Array.getD_eq_getD_getElem?, Array.getElem?_setIfInBounds_self_of_lt hi]; rfl
  have mono : ∀ c, listed.getD c false = true → (listed.setIfInBounds i true).getD c false = true := fun c hc => by
    by_cases e : i = c
    · subst e; exact new
    · rw [gset e false]; exact hc
  refine ⟨Nat.le_trans h.lo k.size, h.ext.trans (k.mono hS), fun j hj hcj => ?_, fun x hx h1 => ?_⟩
  · by_cases e : j = i
    · subst e; rw [upd_same]; exact hv
    · rw [upd_ne _ _ e]
      have hj' : listed.getD j false = true := by
        rcases listed_set hj with rfl | hj
        · exact absurd rfl e
        · exact hj
      have hold := h.vals j hj' (fun c hcc => set_falseR (hcj c hcc))
      refine (T.getD j .any).stab S' _ _ _ hold k ?_
      have ht : (T.getD j .any).ty = tys.getD j 0 := by
        rw [← hty, List.getD_eq_getElem?_getD, List.getD_eq_getElem?_getD, List.getElem?_map]
        cases T[j]? <;> rfl
      rw [ht]
      intro hin
      obtain ⟨c, hcc, hci⟩ := hc j e hin hj'
      have := hcj c hcc
      rcases hci with rfl | hci
      · rw [new] at this; cases this
      · rw [mono c hci] at this; cases this
  · rcases listed_set h1 with e | h1
    · exact mono _ (ho x hx e)
    · exact mono _ (h.ord x hx h1)
theorem JR.plain {B : Nat} {base : World} {S : List Nat} {T : List (Rv B)} {tys : List Nat} {cons : List (Option Nat)} {prs : List (Nat × Nat)} {listed : Array Bool} {f : Nat → Value} {w w' : World} (h : JR B base S T tys cons prs listed f w)
    (hty : T.map Rv.ty = tys) {i : Nat} (hi : i < listed.size) {v : Value} (k : Ex w w') (hv : (T.getD i .any).holds v w')
    (ho : ∀ x ∈ prs, x.1 = i → listed.getD x.2 false = true) : JR B base S T tys cons prs (listed.setIfInBounds i true) (upd f i v) w' :=
  h.next hty hi [] (by simp) (by simp) (k.kt h.lo) hv (by simp) ho
/-- append to a row that is one's own -/
theorem wp_rapp {o : Oper} {a : Act} {w : World} {K : Act → World → Prop} {Q : Exit → Act → World → Prop} (s x : Operand) (t e : TypeId) (z : Value) (sz bytes : Nat)
    (hop : o.op = .call { callee := .builtin .append, args := #[s, x], argTypes := #[t, t] }) (hu : Try.prog.underlying t = some (.slice e))
    (hinfo : (Try.prog.info? e).map (fun i => (i.zero, i.size, i.bytes)) = some (some z, sz, bytes)) (hz : z.cells.size = sz) (hp : 0 < sz)
    (B n : Nat) (v : Value) (xs : List Value) (hs : a.eval s = v) (hown : w.ownsRow B e sz v n xs) (hB : B ≤ w.heap.size)
    (ad : Option Addr) (m c : Nat) (ys : List Value) (hx : a.eval x = .slice ad m c) (hl : ys.length = m * sz) (hnil : ad = none → c = 0 ∧ m = 0)
    (hr : ∀ A, ad = some A → ∀ j u, ys[j]? = some u → w.cell? (A.add j) = some u) (h1 : ∀ u ∈ ys, u.oneCell' = true)
    (hN : n + m ≤ 9223372036854775807) (hby : (n + m) * bytes ≤ 140737488355328)
    (h : ∀ v' w', w'.ownsRow B e sz v' (n + m) (xs ++ ys) → Kt [e] B w w' → (v = .slice none 0 0 → Ex w w') → K (a.put o.dst v') w') : o.wp Try.prog a w K Q := by
  obtain ⟨i0, hi0, hz0, hz1, hz2⟩ := info_parts hinfo
  have key : ∃ v' w', (Builtin.append_ #[t, t] o.type #[v, .slice ad m c]).run Try.prog w = .ok v' w' ∧ w'.ownsRow B e sz v' (n + m) (xs ++ ys) ∧ Kt [e] B w w' ∧ (v = .slice none 0 0 → Ex w w') := by
    cases had : ad with
    | none =>
      obtain ⟨rfl, rfl⟩ := hnil had
      obtain rfl : ys = [] := List.eq_nil_of_length_eq_zero (by rw [hl]; exact Nat.zero_mul _)
      refine ⟨v, w, run_append_owned_none w B t o.type e i0 sz hu hi0 v n xs hown, ?_, Kt.refl _ _ _, fun _ => Ex.refl _⟩
      rw [List.append_nil]; exact hown
    | some A =>
      obtain ⟨v', w', hrun, r1, r2, _⟩ := run_append_own (P := Try.prog) w B t o.type e i0 z sz bytes hu hi0 hz0 hz1 hz2 hz hp v n xs hown A m c ys hl (hr A had) h1 hN hby hB
      exact ⟨v', w', hrun, r1, Kt.grown hown r2 hB, fun hv => (Below.refl _ _).grown r2 (Nat.le_refl _) (fun k hk => by rw [hv] at hk; cases hk)⟩
  obtain ⟨v', w', hrun, r1, r2, r3⟩ := key
  unfold Oper.wp
  simp [execOp, hop, resolve, invoke, builtin, hs, hx, hrun, Result.andThen]
  exact h v' w' r1 r2 r3
end Go.Proofs.Ytmjfnpmnhehnkaa
