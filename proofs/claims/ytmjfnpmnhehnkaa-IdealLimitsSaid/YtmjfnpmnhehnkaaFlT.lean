/- regions in which rows are appended to, old ones too: assertions that hang on blocks of several types; what holds ahead of the one operation that turns an old row -/
import Derived.Test.YtmjfnpmnhehnkaaFlS
namespace Go.Proofs.Ytmjfnpmnhehnkaa
open Go.RowKit
structure Rw (B : Nat) where
  tys : List Nat
  holds : Value → World → Prop
  stab : ∀ S v w w', holds v w → Kt S B w w' → (∀ t ∈ tys, t ∉ S) → holds v w'
def Rw.is {B : Nat} (x : Value) : Rw B := ⟨[], fun v _ => v = x, fun _ _ _ _ h _ _ => h⟩
def Rw.any {B : Nat} : Rw B := ⟨[], fun _ _ => True, fun _ _ _ _ _ _ _ => trivial⟩
def Rw.own {B : Nat} (e : TypeId) (sz n : Nat) (xs : List Value) : Rw B := ⟨[e], fun v w => w.ownsRow B e sz v n xs, fun _ _ _ _ h k hs => k.row h (hs e (List.mem_singleton.2 rfl))⟩
def Rw.emp {B : Nat} (e : TypeId) : Rw B := ⟨[e], fun v w => Emp B w e v, fun _ _ _ _ ⟨g, h1, h2, h3⟩ k hs => ⟨g, h1, h2, k.bk h3 (hs e (List.mem_singleton.2 rfl))⟩⟩
/-- a row of n elements that fills its block -/
def Many (w : World) (e : TypeId) (n : Nat) (cs : List Value) (v : Value) : Prop := ∃ g, v = .slice (some ⟨g, 0, none⟩) n n ∧ Bk w g e cs.toArray
def Rw.many {B : Nat} (e : TypeId) (n : Nat) (cs : List Value) : Rw B := ⟨[e], fun v w => Many w e n cs v, fun _ _ _ _ ⟨g, h1, h2⟩ k hs => ⟨g, h1, k.bk h2 (hs e (List.mem_singleton.2 rfl))⟩⟩
/-- a place in such a block -/
def Rw.ptr {B : Nat} (e : TypeId) (o : Nat) (cs : List Value) : Rw B := ⟨[e], fun v w => ∃ g, v = .pointer (some ⟨g, o, none⟩) ∧ Bk w g e cs.toArray, fun _ _ _ _ ⟨g, h1, h2⟩ k hs => ⟨g, h1, k.bk h2 (hs e (List.mem_singleton.2 rfl))⟩⟩
theorem Many.rd {w : World} {e : TypeId} {n sz : Nat} {cs : List Value} {v : Value} (h : Many w e n cs v) (hl : cs.length = n * sz) : ∃ ad, v = .slice ad n n ∧ (ad = none → n = 0) ∧ Rd w ad n sz cs := by
  obtain ⟨g, rfl, hb⟩ := h
  refine ⟨_, rfl, (fun h => by cases h), ⟨hl, fun _ => ⟨g, 0, rfl, hb.lt, fun j u hu => ?_⟩⟩⟩
  rw [Nat.zero_add, hb.cell]; simpa using hu
structure JW (B : Nat) (base : World) (S : List Nat) (T : List (Rw B)) (tyss : List (List Nat)) (cons : List (Option Nat)) (prs : List (Nat × Nat)) (cut : Nat) (listed : Array Bool) (f : Nat → Value) (w : World) : Prop where
  lo : B ≤ w.heap.size
  ext : Kt S B base w
  vals : ∀ i, listed.getD i false = true → (∀ c, cons.getD i none = some c → listed.getD c false = false) → (T.getD i .any).holds (f i) w
  ord : ∀ x ∈ prs, listed.getD x.1 false = true → listed.getD x.2 false = true
  pre : listed.getD cut false = false → Ex base w
section
variable {B : Nat} {base : World} {S : List Nat} {T : List (Rw B)} {tyss : List (List Nat)} {cons : List (Option Nat)} {prs : List (Nat × Nat)} {cut : Nat}
theorem JW.start (hB : B ≤ base.heap.size) (listed : Array Bool) (f : Nat → Value) (h0 : ∀ i, listed.getD i false = false) : JW B base S T tyss cons prs cut listed f base.drew :=
  ⟨hB, Ex.kt (show Ex base base.drew from (Below.refl base.heap.size base).drew) hB, fun i hi => absurd hi (by rw [h0 i]; decide), fun x _ hx => absurd hx (by rw [h0 x.1]; decide), fun _ => (Below.refl base.heap.size base).drew⟩
theorem set_new {listed : Array Bool} {i : Nat} (hi : i < listed.size) : (listed.setIfInBounds i true).getD i false = true := by
  rw [Array.getD_eq_getD_getElem?, Array.getElem?_setIfInBounds_self_of_lt hi]; rfl
theorem JW.next {listed : Array Bool} {f : Nat → Value} {w w' : World} (h : JW B base S T tyss cons prs cut listed f w)
    (hty : T.map Rw.tys = tyss) {i : Nat} (hi : i < listed.size) {v : Value} (S' : List Nat) (hS : ∀ x ∈ S', x ∈ S) (k : Kt S' B w w') (hv : (T.getD i .any).holds v w')
    (hc : ∀ j, j ≠ i → (∃ t ∈ S', t ∈ tyss.getD j []) → listed.getD j false = true → ∃ c, cons.getD j none = some c ∧ (c = i ∨ listed.getD c false = true))
    (ho : ∀ x ∈ prs, x.1 = i → listed.getD x.2 false = true) (hp : (listed.setIfInBounds i true).getD cut false = false → Ex base w') : JW B base S T tyss cons prs cut (listed.setIfInBounds i true) (upd f i v) w' := by
  have new := set_new hi
  have mono : ∀ c, listed.getD c false = true → (listed.setIfInBounds i true).getD c false = true := fun c hc => by
    by_cases e : i = c
    · subst e; exact new
    · rw [gset e false]; exact hc
  refine ⟨Nat.le_trans h.lo k.size, h.ext.trans (k.mono hS), fun j hj hcj => ?_, fun x hx h1 => ?_, hp⟩
  · by_cases e : j = i
    · subst e; rw [upd_same]; exact hv
    · rw [upd_ne _ _ e]
      have hj' : listed.getD j false = true := by
        rcases listed_set hj with rfl | hj
        · exact absurd rfl e
        · exact hj
      have hold := h.vals j hj' (fun c hcc => set_falseR (hcj c hcc))
      refine (T.getD j .any).stab S' _ _ _ hold k ?_
      have ht : (T.getD j .any).tys = tyss.getD j [] := by
        rw [← hty, List.getD_eq_getElem?_getD, List.getD_eq_getElem?_getD, List.getElem?_map]
        cases T[j]? <;> rfl
      rw [ht]
      intro t htj hin
      obtain ⟨c, hcc, hci⟩ := hc j e ⟨t, hin, htj⟩ hj'
      have := hcj c hcc
      rcases hci with rfl | hci
      · rw [new] at this; cases this
      · rw [mono c hci] at this; cases this
  · rcases listed_set h1 with e | h1
    · exact mono _ (ho x hx e)
    · exact mono _ (h.ord x hx h1)
theorem JW.plain {listed : Array Bool} {f : Nat → Value} {w w' : World} (h : JW B base S T tyss cons prs cut listed f w)
    (hty : T.map Rw.tys = tyss) {i : Nat} (hi : i < listed.size) {v : Value} (k : Ex w w') (hv : (T.getD i .any).holds v w')
    (ho : ∀ x ∈ prs, x.1 = i → listed.getD x.2 false = true) : JW B base S T tyss cons prs cut (listed.setIfInBounds i true) (upd f i v) w' :=
  h.next hty hi [] (by simp) (k.kt h.lo) hv (fun j _ ⟨t, ht, _⟩ => by simp at ht) ho (fun hp => Ex.trans (h.pre (set_falseR hp)) k)
end
theorem no_ord (i : Nat) (listed : Array Bool) : ∀ x ∈ ([] : List (Nat × Nat)), x.1 = i → listed.getD x.2 false = true := by simp
theorem no_c {P : Nat → Prop} : ∀ c, (none : Option Nat) = some c → P c := fun c h => by cases h
theorem int_eq {a b : Int} (h : a = b) : Value.int .i64 a = Value.int .i64 b := congrArg _ h
theorem mem_tyss {tyss : List (List Nat)} {j e : Nat} (h : ∃ t ∈ [e], t ∈ tyss.getD j []) : j ∈ (List.range tyss.length).filter (fun j => (tyss.getD j []).contains e) := by
  obtain ⟨t, ht, h⟩ := h
  rw [List.mem_singleton] at ht
  subst ht
  rw [List.mem_filter, List.mem_range]
  refine ⟨?_, List.contains_iff_mem.2 h⟩
  rcases Nat.lt_or_ge j tyss.length with hj | hj
  · exact hj
  · rw [List.getD_eq_getElem?_getD, List.getElem?_eq_none hj] at h
    simp at h
end Go.Proofs.Ytmjfnpmnhehnkaa
