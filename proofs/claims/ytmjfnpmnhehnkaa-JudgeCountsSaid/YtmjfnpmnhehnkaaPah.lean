/- FlR, FlS, FlT, Ja, FlX, Ta -/
import Derived.Test.YtmjfnpmnhehnkaaPag
import Derived.Laws.Slices
import Derived.Lib.BytesEntry
namespace Go.Proofs.Ytmjfnpmnhehnkaa
open Go.RowKit
/-- blocks below B, and those of types that are not in S, are as they were -/
structure Kt (S : List Nat) (B : Nat) (w w' : World) : Prop where
 below : Below B w w'
 typ : ∀ (h : Nat) (cs : Array Value) (t : TypeId) (fr : Nat × Nat), w.heap[h]? = some (.cells cs t fr) → t ∉ S → w'.heap[h]? = some (.cells cs t fr)
theorem Kt.size {S : List Nat} {B : Nat} {w w' : World} (h : Kt S B w w') : w.heap.size ≤ w'.heap.size := h.below.size
theorem Kt.refl (S : List Nat) (B : Nat) (w : World) : Kt S B w w := ⟨Below.refl _ _, fun _ _ _ _ h _ => h⟩
theorem Kt.trans {S : List Nat} {B : Nat} {a b c : World} (h : Kt S B a b) (k : Kt S B b c) : Kt S B a c := ⟨h.below.trans k.below, fun i cs t fr hi h1 => k.typ i cs t fr (h.typ i cs t fr hi h1) h1⟩
theorem Kt.mono {S S' : List Nat} {B : Nat} {a b : World} (h : Kt S B a b) (hs : ∀ x ∈ S, x ∈ S') : Kt S' B a b := ⟨h.below, fun i cs t fr hi h1 => h.typ i cs t fr hi (fun hx => h1 (hs _ hx))⟩
theorem blk_lt {w : World} {g : Nat} {o : Obj} (h : w.heap[g]? = some o) : g < w.heap.size := (Array.getElem?_eq_some_iff.1 h).1
theorem Ex.kt {S : List Nat} {B : Nat} {w w' : World} (h : Ex w w') (hB : B ≤ w.heap.size) : Kt S B w w' := ⟨h.mono hB, fun i _ _ _ hi _ => (h.block i (blk_lt hi)).trans hi⟩
theorem Kt.bk {S : List Nat} {B g : Nat} {w w' : World} {t : TypeId} {cs : Array Value} (h : Kt S B w w') (hb : Bk w g t cs) (ht : t ∉ S) : Bk w' g t cs := h.typ _ _ _ _ hb ht
theorem Kt.grown {w w' : World} {B : Nat} {e : TypeId} {sz n : Nat} {v : Value} {xs : List Value} (h : w.ownsRow B e sz v n xs) (k : w.grownBy w' v.ownBlock) (hB : B ≤ w.heap.size) : Kt [e] B w w' := by
 refine ⟨(Below.refl B w).grown k hB (fun j hj => (h.lt j hj).1), fun i cs t fr hi h1 => (k.block i (blk_lt hi) ?_).trans hi⟩
 intro he
 obtain ⟨_, ⟨hv, _⟩ | ⟨g, cap, cur, hv, _, hg, _⟩⟩ := h
 ·rw [hv] at he; cases he
 rw [hv] at he
 obtain rfl : i = g := by simpa [Value.ownBlock] using he
 rw [hg] at hi
 injection hi with hi
 injection hi with _ h2
 exact h1 (by rw [← h2]; exact List.mem_singleton.2 rfl)
theorem Kt.md {S : List Nat} {B g : Nat} {w w' : World} {t : TypeId} {cs : Array Value} (k : Md g w w') (hg : B ≤ g) (hb : Bk w g t cs) (ht : t ∈ S) : Kt S B w w' :=
 ⟨k.below B hg _ (Below.refl _ _), fun i cs' t' fr hi h1 => by
  refine (k.other i ?_ (blk_lt hi)).trans hi
  rintro rfl
  unfold Bk at hb
  rw [hb] at hi
  injection hi with hi
  injection hi with _ hi
  exact h1 (by rw [← hi]; exact ht)⟩
theorem Kt.row {S : List Nat} {B B' : Nat} {w w' : World} {e : TypeId} {sz n : Nat} {v : Value} {xs : List Value} (k : Kt S B w w') (h : w.ownsRow B' e sz v n xs) (he : e ∉ S) : w'.ownsRow B' e sz v n xs := by
 refine ⟨h.1, h.2.imp id fun ⟨g, cap, cur, hv, hb, hg, hr⟩ => ⟨g, cap, cur, hv, hb, k.typ _ _ _ _ hg he, hr⟩⟩
theorem Ex.row {B' : Nat} {w w' : World} {e : TypeId} {sz n : Nat} {v : Value} {xs : List Value} (k : Ex w w') (h : w.ownsRow B' e sz v n xs) : w'.ownsRow B' e sz v n xs :=
 (Ex.kt (S := []) (B := 0) k (Nat.zero_le _)).row h (by simp)
/-- what is claimed of a value, stable where blocks of other types than its own are turned -/
structure Rv (B : Nat) where
 ty : Nat
 holds : Value → World → Prop
 stab : ∀ S v w w', holds v w → Kt S B w w' → ty ∉ S → holds v w'
def Rv.is {B : Nat} (x : Value) : Rv B := ⟨0, fun v _ => v = x, fun _ _ _ _ h _ _ => h⟩
def Rv.any {B : Nat} : Rv B := ⟨0, fun _ _ => True, fun _ _ _ _ _ _ _ => trivial⟩
def Rv.own {B : Nat} (e : TypeId) (sz n : Nat) (xs : List Value) : Rv B := ⟨e, fun v w => w.ownsRow B e sz v n xs, fun _ _ _ _ h k hs => k.row h hs⟩
theorem set_falseR {l : Array Bool} {i k : Nat} (h : (l.setIfInBounds i true).getD k false = false) : l.getD k false = false := by
 by_cases e : i = k
 ·subst e
  rw [Array.getD_eq_getD_getElem?] at h ⊢
  by_cases hi : i < l.size
  ·rw [Array.getElem?_setIfInBounds_self_of_lt hi] at h; cases h
  rw [Array.getElem?_eq_none (by omega)]; rfl
 rw [gset e false] at h; exact h
structure JR (B : Nat) (base : World) (S : List Nat) (T : List (Rv B)) (tys : List Nat) (cons : List (Option Nat)) (prs : List (Nat × Nat)) (listed : Array Bool) (f : Nat → Value) (w : World) : Prop where
 lo : B ≤ w.heap.size
 ext : Kt S B base w
 vals : ∀ i, listed.getD i false = true → (∀ c, cons.getD i none = some c → listed.getD c false = false) → (T.getD i .any).holds (f i) w
 ord : ∀ x ∈ prs, listed.getD x.1 false = true → listed.getD x.2 false = true
theorem JR.start {B : Nat} {base : World} {S : List Nat} {T : List (Rv B)} {tys : List Nat} {cons : List (Option Nat)} {prs : List (Nat × Nat)} (hB : B ≤ base.heap.size) (listed : Array Bool) (f : Nat → Value) (h0 : ∀ i, listed.getD i false = false) : JR B base S T tys cons prs listed f base.drew :=
 ⟨hB, Ex.kt (show Ex base base.drew from (Below.refl base.heap.size base).drew) hB, fun i hi => absurd hi (by rw [h0 i]; decide), fun x _ hx => absurd hx (by rw [h0 x.1]; decide)⟩
theorem JR.next {B : Nat} {base : World} {S : List Nat} {T : List (Rv B)} {tys : List Nat} {cons : List (Option Nat)} {prs : List (Nat × Nat)} {listed : Array Bool} {f : Nat → Value} {w w' : World} (h : JR B base S T tys cons prs listed f w)
  (hty : T.map Rv.ty = tys) {i : Nat} (hi : i < listed.size) {v : Value} (S' : List Nat) (hS : ∀ x ∈ S', x ∈ S) (h0 : 0 ∉ S') (k : Kt S' B w w') (hv : (T.getD i .any).holds v w')
  (hc : ∀ j, j ≠ i → tys.getD j 0 ∈ S' → listed.getD j false = true → ∃ c, cons.getD j none = some c ∧ (c = i ∨ listed.getD c false = true))
  (ho : ∀ x ∈ prs, x.1 = i → listed.getD x.2 false = true) : JR B base S T tys cons prs (listed.setIfInBounds i true) (upd f i v) w' := by
 have new : (listed.setIfInBounds i true).getD i false = true := by
  rw [Array.getD_eq_getD_getElem?, Array.getElem?_setIfInBounds_self_of_lt hi]; rfl
 have mono : ∀ c, listed.getD c false = true → (listed.setIfInBounds i true).getD c false = true := fun c hc => by
  by_cases e : i = c
  ·subst e; exact new
  rw [gset e false]; exact hc
 refine ⟨Nat.le_trans h.lo k.size, h.ext.trans (k.mono hS), fun j hj hcj => ?_, fun x hx h1 => ?_⟩
 ·by_cases e : j = i
  ·subst e; rw [upd_same]; exact hv
  rw [upd_ne _ _ e]
  have hj' : listed.getD j false = true := by
   rcases listed_set hj with rfl | hj
   ·exact absurd rfl e
   exact hj
  have hold := h.vals j hj' (fun c hcc => set_falseR (hcj c hcc))
  refine (T.getD j .any).stab S' _ _ _ hold k ?_
  have ht : (T.getD j .any).ty = tys.getD j 0 := by
   rw [← hty, List.getD_eq_getElem?_getD, List.getD_eq_getElem?_getD, List.getElem?_map]
   cases T[j]? <;> rfl
  rw [ht]
  intro hin
  obtain ⟨c, hcc, hci⟩ := hc j e hin hj'
  have := hcj c hcc
  rcases hci with rfl | hci
  ·rw [new] at this; cases this
  rw [mono c hci] at this; cases this
 rcases listed_set h1 with e | h1
 ·exact mono _ (ho x hx e)
 exact mono _ (h.ord x hx h1)
theorem JR.plain {B : Nat} {base : World} {S : List Nat} {T : List (Rv B)} {tys : List Nat} {cons : List (Option Nat)} {prs : List (Nat × Nat)} {listed : Array Bool} {f : Nat → Value} {w w' : World} (h : JR B base S T tys cons prs listed f w)
  (hty : T.map Rv.ty = tys) {i : Nat} (hi : i < listed.size) {v : Value} (k : Ex w w') (hv : (T.getD i .any).holds v w')
  (ho : ∀ x ∈ prs, x.1 = i → listed.getD x.2 false = true) : JR B base S T tys cons prs (listed.setIfInBounds i true) (upd f i v) w' :=
 h.next hty hi [] (by simp) (by simp) (k.kt h.lo) hv (by simp) ho
end Go.Proofs.Ytmjfnpmnhehnkaa
namespace Go.Proofs.Ytmjfnpmnhehnkaa
open Go.RowKit
/-- n elements that are read, cells ys -/
structure Rd (w : World) (ad : Option Addr) (n sz : Nat) (ys : List Value) : Prop where
 len : ys.length = n * sz
 read : 0 < n → ∃ a o, ad = some ⟨a, o, none⟩ ∧ a < w.heap.size ∧ ∀ j u, ys[j]? = some u → w.cell? ⟨a, o + j, none⟩ = some u
theorem Rd.ext {w w' : World} {ad : Option Addr} {n sz : Nat} {ys : List Value} (h : Rd w ad n sz ys) (k : Ex w w') : Rd w' ad n sz ys := ⟨h.len, fun h0 => by
 obtain ⟨a, o, e, hl, hc⟩ := h.read h0
 exact ⟨a, o, e, Nat.lt_of_lt_of_le hl k.size, fun j u hu => (Below.cell (p := ⟨a, o + j, none⟩) k hl).trans (hc j u hu)⟩⟩
theorem Rd.at {w : World} {ad : Option Addr} {n sz : Nat} {ys : List Value} (h : Rd w ad n sz ys) (A : Addr) (hA : ad = some A) (j : Nat) (u : Value) (hu : ys[j]? = some u) : w.cell? (A.add j) = some u := by
 have h0 : 0 < n := by
  rcases Nat.eq_zero_or_pos n with h0 | h0
  ·have := (List.getElem?_eq_some_iff.1 hu).1
   rw [h.len, h0, Nat.zero_mul] at this; omega
  exact h0
 obtain ⟨a, o, e, hl, hc⟩ := h.read h0
 rw [e] at hA; cases hA
 rw [Addr.add_lit]
 exact hc j u hu
theorem own_rd {w : World} {B : Nat} {e : TypeId} {sz n : Nat} {v : Value} {xs : List Value} (h : w.ownsRow B e sz v n xs) : ∃ ad cap, v = .slice ad n cap ∧ (ad = none → cap = 0) ∧ n ≤ cap ∧ cap ≤ 9223372036854775807 ∧ Rd w ad n sz xs := by
 obtain ⟨h1, ⟨hv, h0⟩ | ⟨g, cap, cur, rfl, hb, hh, hc, hm, hs, ht⟩⟩ := h
 ·exact ⟨none, 0, by rw [h0]; exact hv, fun _ => rfl, by omega, by omega, ⟨h1, fun h => by omega⟩⟩
 refine ⟨some ⟨g, 0, none⟩, cap, rfl, (fun h => by cases h), hc, by simpa [maxLen] using hm, ⟨h1, fun _ => ⟨g, 0, rfl, (show Bk w g e cur from hh).lt, fun j u hu => ?_⟩⟩⟩
 rw [(show Bk w g e cur from hh).cell, Nat.zero_add, ← Array.getElem?_toList]
 rw [← ht, List.getElem?_take] at hu
 split at hu
 ·exact hu
 cases hu
theorem Rd.take {w : World} {ad : Option Addr} {n sz cap : Nat} {ys : List Value} (h : Rd w ad n sz ys) (hnil : ad = none → cap = 0) (hc : n ≤ cap) (k : Nat) (hk : k ≤ n) :
  ∃ ad', sliced ad 0 k cap sz = .slice ad' k cap ∧ (ad' = none → cap = 0) ∧ Rd w ad' k sz (ys.take (k * sz)) := by
 have hl : (ys.take (k * sz)).length = k * sz := by
  rw [List.length_take, h.len]
  exact Nat.min_eq_left (Nat.mul_le_mul_right _ hk)
 cases ad with
 | none =>
  have := hnil rfl
  exact ⟨none, by unfold sliced; simp, fun _ => this, ⟨hl, fun h => by omega⟩⟩
 | some A =>
  by_cases h0 : 0 < k
  ·obtain ⟨a, o, e, hla, hr⟩ := h.read (by omega)
   cases e
   refine ⟨some ⟨a, o, none⟩, by unfold sliced; rw [if_neg (by omega), Option.map_some, Nat.zero_mul, Addr.add_lit]; rfl, (fun h => by cases h), ⟨hl, fun _ => ⟨a, o, rfl, hla, fun j u hu => hr j u ?_⟩⟩⟩
   rw [List.getElem?_take] at hu
   split at hu
   ·exact hu
   cases hu
  obtain rfl : k = 0 := by omega
  refine ⟨_, rfl, fun hn => ?_, ⟨hl, fun h => absurd h (Nat.lt_irrefl 0)⟩⟩
  split at hn <;> simp at hn
theorem Rd.drop {w : World} {ad : Option Addr} {n sz cap : Nat} {ys : List Value} (h : Rd w ad n sz ys) (hnil : ad = none → cap = 0) (hc : n ≤ cap) (k : Nat) (hk : k ≤ n) :
  ∃ ad', sliced ad k n cap sz = .slice ad' (n - k) (cap - k) ∧ (ad' = none → cap - k = 0) ∧ Rd w ad' (n - k) sz (ys.drop (k * sz)) := by
 have hl : (ys.drop (k * sz)).length = (n - k) * sz := by
  rw [List.length_drop, h.len, Nat.sub_mul]
 cases ad with
 | none =>
  have := hnil rfl
  exact ⟨none, by unfold sliced; simp, fun _ => by omega, ⟨hl, fun h => by omega⟩⟩
 | some A =>
  by_cases h0 : k < n
  ·obtain ⟨a, o, e, hla, hr⟩ := h.read (by omega)
   cases e
   refine ⟨some ⟨a, o + k * sz, none⟩, by unfold sliced; rw [if_neg (by omega), Option.map_some, Addr.add_lit], (fun h => by cases h), ⟨hl, fun _ => ⟨a, o + k * sz, rfl, hla, fun j u hu => ?_⟩⟩⟩
   rw [List.getElem?_drop] at hu
   rw [Nat.add_assoc]
   exact hr _ u hu
  obtain rfl : k = n := by omega
  refine ⟨_, rfl, fun hn => ?_, ⟨hl, fun h => by omega⟩⟩
  split at hn <;> simp at hn
section
variable {o : Oper} {a : Act} {w : World} {K : Act → World → Prop} {Q : Exit → Act → World → Prop}
set_option maxRecDepth 100000 in
theorem wp_sl_h (t : TypeId) (x h : Operand) (hop : o.op = .slice t x none (some h) none) (ht : Try.prog.underlying t = some (.slice (Try.prog.elem t))) (sz : Nat) (hs : ∀ w, (sizeOf (Try.prog.elem t)).run Try.prog w = .ok sz w)
  (ad : Option Addr) (n cap k : Nat) (hx : a.eval x = .slice ad n cap) (hh : a.eval h = .int .i64 k) (hk : k ≤ cap) (hK : K (a.put o.dst (sliced ad 0 k cap sz)) w) : o.wp Try.prog a w K Q := by
 have hr := run_slice_h (P := Try.prog) (w := w) t ad n cap ht .i64 (k : Int) (by omega) (by omega)
 rw [hs, Int.toNat_natCast] at hr
 unfold Oper.wp
 obtain ⟨ev, hev⟩ : ∃ ev, ev = a.eval := ⟨_, rfl⟩
 rw [← hev] at hx hh ⊢
 clear hev
 unfold execOp
 simp only [hop]
 simp [hx, hh, go_sem, run_sliceAt_slice (P := Try.prog) _ t _ _ _ _ ht, hr, Result.andThen]
 rw [show sliced ad 0 k cap sz = .slice ad k cap from by simp [sliced, go_sem]] at hK
 exact hK
set_option maxRecDepth 100000 in
theorem wp_sl_l (t : TypeId) (x l : Operand) (hop : o.op = .slice t x (some l) none none) (ht : Try.prog.underlying t = some (.slice (Try.prog.elem t))) (sz : Nat) (hs : ∀ w, (sizeOf (Try.prog.elem t)).run Try.prog w = .ok sz w)
  (ad : Option Addr) (n cap k : Nat) (hx : a.eval x = .slice ad n cap) (hl : a.eval l = .int .i64 k) (hk : k ≤ n) (hK : K (a.put o.dst (sliced ad k n cap sz)) w) : o.wp Try.prog a w K Q := by
 have hr := run_slice_l (P := Try.prog) (w := w) t ad n cap ht .i64 (k : Int) (by omega) (by omega)
 rw [hs, Int.toNat_natCast] at hr
 unfold Oper.wp
 obtain ⟨ev, hev⟩ : ∃ ev, ev = a.eval := ⟨_, rfl⟩
 rw [← hev] at hx hl ⊢
 clear hev
 unfold execOp
 simp only [hop]
 simp [hx, hl, go_sem, run_sliceAt_slice (P := Try.prog) _ t _ _ _ _ ht, hr, Result.andThen]
 exact hK
end
/-- a row without room that has no element -/
def Emp (B : Nat) (w : World) (e : TypeId) (v : Value) : Prop := ∃ g, v = .slice (some ⟨g, 0, none⟩) 0 0 ∧ B ≤ g ∧ Bk w g e #[]
theorem Emp.own {B : Nat} {w : World} {e : TypeId} {v : Value} (h : Emp B w e v) (sz : Nat) : w.ownsRow B e sz v 0 [] := by
 obtain ⟨g, rfl, hB, hb⟩ := h
 exact ⟨by simp, .inr ⟨g, 0, #[], rfl, hB, hb, Nat.le_refl _, by decide, by simp, by simp⟩⟩
def One (w : World) (e : TypeId) (cs : List Value) (v : Value) : Prop := ∃ g, v = .slice (some ⟨g, 0, none⟩) 1 1 ∧ Bk w g e cs.toArray
def Rv.emp {B : Nat} (e : TypeId) : Rv B := ⟨e, fun v w => Emp B w e v, fun _ _ _ _ ⟨g, h1, h2, h3⟩ k hs => ⟨g, h1, h2, k.bk h3 hs⟩⟩
def Rv.one {B : Nat} (e : TypeId) (cs : List Value) : Rv B := ⟨e, fun v w => One w e cs v, fun _ _ _ _ ⟨g, h1, h2⟩ k hs => ⟨g, h1, k.bk h2 hs⟩⟩
theorem One.rd {w : World} {e : TypeId} {cs : List Value} {v : Value} (h : One w e cs v) : ∃ ad, v = .slice ad 1 1 ∧ (ad = none → 1 = 0) ∧ Rd w ad 1 cs.length cs := by
 obtain ⟨g, rfl, hb⟩ := h
 refine ⟨_, rfl, (fun h => by cases h), ⟨by omega, fun _ => ⟨g, 0, rfl, hb.lt, fun j u hu => ?_⟩⟩⟩
 rw [Nat.zero_add, hb.cell]; simpa using hu
section
variable {o : Oper} {a : Act} {w : World} {K : Act → World → Prop} {Q : Exit → Act → World → Prop}
end
theorem rown_less {w : World} {B B' : Nat} {e : TypeId} {sz n : Nat} {v : Value} {xs : List Value} (h : w.ownsRow B e sz v n xs) (k : B' ≤ B) : w.ownsRow B' e sz v n xs :=
 ⟨h.1, h.2.imp id fun ⟨g, cap, cur, hv, hb, hr⟩ => ⟨g, cap, cur, hv, Nat.le_trans k hb, hr⟩⟩
end Go.Proofs.Ytmjfnpmnhehnkaa
namespace Go.Proofs.Ytmjfnpmnhehnkaa
open Go.RowKit
structure Rw (B : Nat) where
 tys : List Nat
 holds : Value → World → Prop
 stab : ∀ S v w w', holds v w → Kt S B w w' → (∀ t ∈ tys, t ∉ S) → holds v w'
def Rw.is {B : Nat} (x : Value) : Rw B := ⟨[], fun v _ => v = x, fun _ _ _ _ h _ _ => h⟩
def Rw.any {B : Nat} : Rw B := ⟨[], fun _ _ => True, fun _ _ _ _ _ _ _ => trivial⟩
def Rw.own {B : Nat} (e : TypeId) (sz n : Nat) (xs : List Value) : Rw B := ⟨[e], fun v w => w.ownsRow B e sz v n xs, fun _ _ _ _ h k hs => k.row h (hs e (List.mem_singleton.2 rfl))⟩
def Rw.emp {B : Nat} (e : TypeId) : Rw B := ⟨[e], fun v w => Emp B w e v, fun _ _ _ _ ⟨g, h1, h2, h3⟩ k hs => ⟨g, h1, h2, k.bk h3 (hs e (List.mem_singleton.2 rfl))⟩⟩
/-- a row of n elements that fills its block -/
def Many (w : World) (e : TypeId) (n : Nat) (cs : List Value) (v : Value) : Prop := ∃ g, v = .slice (some ⟨g, 0, none⟩) n n ∧ Bk w g e cs.toArray
def Rw.many {B : Nat} (e : TypeId) (n : Nat) (cs : List Value) : Rw B := ⟨[e], fun v w => Many w e n cs v, fun _ _ _ _ ⟨g, h1, h2⟩ k hs => ⟨g, h1, k.bk h2 (hs e (List.mem_singleton.2 rfl))⟩⟩
/-- a place in such a block -/
def Rw.ptr {B : Nat} (e : TypeId) (o : Nat) (cs : List Value) : Rw B := ⟨[e], fun v w => ∃ g, v = .pointer (some ⟨g, o, none⟩) ∧ Bk w g e cs.toArray, fun _ _ _ _ ⟨g, h1, h2⟩ k hs => ⟨g, h1, k.bk h2 (hs e (List.mem_singleton.2 rfl))⟩⟩
theorem Many.rd {w : World} {e : TypeId} {n sz : Nat} {cs : List Value} {v : Value} (h : Many w e n cs v) (hl : cs.length = n * sz) : ∃ ad, v = .slice ad n n ∧ (ad = none → n = 0) ∧ Rd w ad n sz cs := by
 obtain ⟨g, rfl, hb⟩ := h
 refine ⟨_, rfl, (fun h => by cases h), ⟨hl, fun _ => ⟨g, 0, rfl, hb.lt, fun j u hu => ?_⟩⟩⟩
 rw [Nat.zero_add, hb.cell]; simpa using hu
structure JW (B : Nat) (base : World) (S : List Nat) (T : List (Rw B)) (tyss : List (List Nat)) (cons : List (Option Nat)) (prs : List (Nat × Nat)) (cut : Nat) (listed : Array Bool) (f : Nat → Value) (w : World) : Prop where
 lo : B ≤ w.heap.size
 ext : Kt S B base w
 vals : ∀ i, listed.getD i false = true → (∀ c, cons.getD i none = some c → listed.getD c false = false) → (T.getD i .any).holds (f i) w
 ord : ∀ x ∈ prs, listed.getD x.1 false = true → listed.getD x.2 false = true
 pre : listed.getD cut false = false → Ex base w
section
variable {B : Nat} {base : World} {S : List Nat} {T : List (Rw B)} {tyss : List (List Nat)} {cons : List (Option Nat)} {prs : List (Nat × Nat)} {cut : Nat}
theorem JW.start (hB : B ≤ base.heap.size) (listed : Array Bool) (f : Nat → Value) (h0 : ∀ i, listed.getD i false = false) : JW B base S T tyss cons prs cut listed f base.drew :=
 ⟨hB, Ex.kt (show Ex base base.drew from (Below.refl base.heap.size base).drew) hB, fun i hi => absurd hi (by rw [h0 i]; decide), fun x _ hx => absurd hx (by rw [h0 x.1]; decide), fun _ => (Below.refl base.heap.size base).drew⟩
theorem set_new {listed : Array Bool} {i : Nat} (hi : i < listed.size) : (listed.setIfInBounds i true).getD i false = true := by
 rw [Array.getD_eq_getD_getElem?, Array.getElem?_setIfInBounds_self_of_lt hi]; rfl
theorem JW.next {listed : Array Bool} {f : Nat → Value} {w w' : World} (h : JW B base S T tyss cons prs cut listed f w)
  (hty : T.map Rw.tys = tyss) {i : Nat} (hi : i < listed.size) {v : Value} (S' : List Nat) (hS : ∀ x ∈ S', x ∈ S) (k : Kt S' B w w') (hv : (T.getD i .any).holds v w')
  (hc : ∀ j, j ≠ i → (∃ t ∈ S', t ∈ tyss.getD j []) → listed.getD j false = true → ∃ c, cons.getD j none = some c ∧ (c = i ∨ listed.getD c false = true))
  (ho : ∀ x ∈ prs, x.1 = i → listed.getD x.2 false = true) (hp : (listed.setIfInBounds i true).getD cut false = false → Ex base w') : JW B base S T tyss cons prs cut (listed.setIfInBounds i true) (upd f i v) w' := by
 have new := set_new hi
 have mono : ∀ c, listed.getD c false = true → (listed.setIfInBounds i true).getD c false = true := fun c hc => by
  by_cases e : i = c
  ·subst e; exact new
  rw [gset e false]; exact hc
 refine ⟨Nat.le_trans h.lo k.size, h.ext.trans (k.mono hS), fun j hj hcj => ?_, fun x hx h1 => ?_, hp⟩
 ·by_cases e : j = i
  ·subst e; rw [upd_same]; exact hv
  rw [upd_ne _ _ e]
  have hj' : listed.getD j false = true := by
   rcases listed_set hj with rfl | hj
   ·exact absurd rfl e
   exact hj
  have hold := h.vals j hj' (fun c hcc => set_falseR (hcj c hcc))
  refine (T.getD j .any).stab S' _ _ _ hold k ?_
  have ht : (T.getD j .any).tys = tyss.getD j [] := by
   rw [← hty, List.getD_eq_getElem?_getD, List.getD_eq_getElem?_getD, List.getElem?_map]
   cases T[j]? <;> rfl
  rw [ht]
  intro t htj hin
  obtain ⟨c, hcc, hci⟩ := hc j e ⟨t, hin, htj⟩ hj'
  have := hcj c hcc
  rcases hci with rfl | hci
  ·rw [new] at this; cases this
  rw [mono c hci] at this; cases this
 rcases listed_set h1 with e | h1
 ·exact mono _ (ho x hx e)
 exact mono _ (h.ord x hx h1)
theorem JW.plain {listed : Array Bool} {f : Nat → Value} {w w' : World} (h : JW B base S T tyss cons prs cut listed f w)
  (hty : T.map Rw.tys = tyss) {i : Nat} (hi : i < listed.size) {v : Value} (k : Ex w w') (hv : (T.getD i .any).holds v w')
  (ho : ∀ x ∈ prs, x.1 = i → listed.getD x.2 false = true) : JW B base S T tyss cons prs cut (listed.setIfInBounds i true) (upd f i v) w' :=
 h.next hty hi [] (by simp) (k.kt h.lo) hv (fun j _ ⟨t, ht, _⟩ => by simp at ht) ho (fun hp => Ex.trans (h.pre (set_falseR hp)) k)
end
theorem no_head {prs : List (Nat × Nat)} {i : Nat} {listed : Array Bool} (h : (prs.all fun x => x.1 != i) = true) : ∀ x ∈ prs, x.1 = i → listed.getD x.2 false = true := fun x hx e => by
 have := List.all_eq_true.1 h x hx
 rw [e] at this
 simp at this
theorem no_c {P : Nat → Prop} : ∀ c, (none : Option Nat) = some c → P c := fun c h => by cases h
theorem int_eq {a b : Int} (h : a = b) : Value.int .i64 a = Value.int .i64 b := congrArg _ h
end Go.Proofs.Ytmjfnpmnhehnkaa
namespace Go.Proofs.Ytmjfnpmnhehnkaa
open Go.RowKit
/-- a row of replies that is read -/
structure Rp.In (ad : Option Addr) (cap : Nat) (l : List Rt) (w : World) : Prop where
  len : l.length ≤ cap
  nil : ad = none → cap = 0
  ins : ∀ (i : Nat) (x : Rt), l[i]? = some x → RI w x
  read : 0 < l.length → ∃ a o, ad = some ⟨a, o, none⟩ ∧ a < w.heap.size ∧ ∀ (i : Nat) (x : Rt), l[i]? = some x → w.rangeAt a (o + i * 10) x.C
theorem Rp.In.ext {ad : Option Addr} {cap : Nat} {l : List Rt} {w w' : World} (h : Rp.In ad cap l w) (k : Ex w w') : Rp.In ad cap l w' :=
  ⟨h.len, h.nil, fun i x hx => (h.ins i x hx).ext k, fun h0 => by
    obtain ⟨a, o, e, hB, hc⟩ := h.read h0
    exact ⟨a, o, e, Nat.lt_of_lt_of_le hB k.sz, fun i x hx j v hv => (Below.cell (p := ⟨a, o + i * 10 + j, none⟩) k hB).trans (hc i x hx j v hv)⟩⟩
theorem Rp.In.take {ad : Option Addr} {cap : Nat} {l : List Rt} {w : World} (h : Rp.In ad cap l w) (n : Nat) : Rp.In ad cap (l.take n) w := by
  have hg : ∀ (i : Nat) (x : Rt), (l.take n)[i]? = some x → l[i]? = some x := fun i x hx => by
    rw [List.getElem?_take] at hx
    split at hx
    · exact hx
    cases hx
  refine ⟨Nat.le_trans (by rw [List.length_take]; exact Nat.min_le_right _ _) h.len, h.nil, fun i x hx => h.ins i x (hg i x hx), fun h0 => ?_⟩
  obtain ⟨a, o, e, hB, hc⟩ := h.read (by rw [List.length_take] at h0; omega)
  exact ⟨a, o, e, hB, fun i x hx => hc i x (hg i x hx)⟩
theorem Rp.nil9 (w : World) : Rp.In none 0 [] w := ⟨Nat.le_refl _, fun _ => rfl, fun i x hx => by simp at hx, fun h => absurd h (Nat.lt_irrefl 0)⟩
theorem ld_rr {o : Oper} {a : Act} {w : World} {K : Act → World → Prop} {Q : Exit → Act → World → Prop} (y : Operand) (g off : Nat) (x : Rt) (hx : x.Ok) (ho : o.op = .load 83 y) (ha : a.eval y = .pointer (some ⟨g, off, none⟩)) (h : w.rangeAt g off x.C) (hk : K (a.put o.dst x.V) w) : o.wp Try.prog a w K Q := by
  obtain ⟨dd, hd⟩ : ∃ d, Try.prog.underlying 83 = some d ∧ d.isRow = true := ⟨_, Try.underlying83, rfl⟩
  exact wp_load_mid 83 y ho g off ha x.C dd h hd.1 hd.2 (by rw [Try.sizeRt, Rt.len hx]) hk
def lifeC (id : List UInt8) (g : Int) : List Value := Lib.byteCells id ++ [.int .u64 g]
def lifeV (id : List UInt8) (g : Int) : Value := .agg (lifeC id g).toArray
theorem lifeC_len {id : List UInt8} {g : Int} (h : id.length = 4) : (lifeC id g).length = 5 := by
  unfold lifeC; rw [List.length_append, byteCells_len, h]; rfl
theorem lifeC_one (id : List UInt8) (g : Int) : (lifeC id g).toArray.all (·.oneCell') = true := by
  rw [List.all_toArray, List.all_eq_true]
  intro u hu
  unfold lifeC at hu
  rcases List.mem_append.1 hu with h | h
  · have := bytes_one id
    rw [List.all_toArray, List.all_eq_true] at this
    exact this u h
  rw [List.mem_singleton.1 h]; rfl
theorem built_life (id : List UInt8) (g : Int) (h : id.length = 4) : Try.prog.built 153 [(0, digV id), (1, .int .u64 g)] = some (lifeC id g).toArray := by
  obtain ⟨i0, i1, i2, i3, rfl⟩ := len4 h
  kernel_rfl
theorem Try.sizeLife : (Try.prog.info? 153).map (·.size) = some 5 := by kernel_rfl
theorem st_life {o : Oper} {a : Act} {w : World} {K : Act → World → Prop} {Q : Exit → Act → World → Prop} (x y : Operand) (g : Nat) (id : List UInt8) (n : Int) (hid : id.length = 4) (ho : o.op = .store 153 x y) (ha : a.eval x = .pointer (some ⟨g, 0, none⟩)) (hy : a.eval y = lifeV id n)
    {Y : Array Value} (hB : Bk w g 153 Y) (hY : Y.size = 5) (hk : ∀ w', Bk w' g 153 (lifeC id n).toArray → Only g w w' → K (a.put o.dst undef) w') : o.wp Try.prog a w K Q := by
  have hB' : Bk w g 153 Y.toList.toArray := by simpa using hB
  refine wp_stp (lifeC id n) x y g 0 ho ha hy hB' (by rw [lifeC_len hid]; simp [hY]) (by rw [Try.sizeLife, lifeC_len hid]) (lifeC_one id n) (fun w' h1 h2 => hk w' ?_ h2)
  have e : Y.toList.take 0 ++ lifeC id n ++ Y.toList.drop (0 + (lifeC id n).length) = lifeC id n := by
    rw [List.take_zero, List.nil_append, List.drop_eq_nil_of_le (by rw [lifeC_len hid]; simp [hY]), List.append_nil]
  rw [e] at h1; exact h1
theorem res_life {fn : Func} {a : Tmp} (h : fn.results = #[.cell a 153]) (tmps : Array Value) (w : World) (g : Nat) (ha : tmps.getD a undef = .pointer (some ⟨g, 0, none⟩)) (id : List UInt8) (n : Int) (hid : id.length = 4) (hB : Bk w g 153 (lifeC id n).toArray) : (results fn tmps).run Try.prog w = .ok (lifeV id n) w := by
  obtain ⟨dd, hd⟩ : ∃ d, Try.prog.underlying 153 = some d ∧ d.isRow = true := ⟨_, Try.underlying153, rfl⟩
  exact res_row1 h tmps w g ha hB hd.1 hd.2 (by rw [Try.sizeLife, lifeC_len hid])
def z5 : Array Value := #[.int .u8 0, .int .u8 0, .int .u8 0, .int .u8 0, .int .u64 0]
set_option maxHeartbeats 4000000 in
set_option maxRecDepth 100000 in
theorem of_any (r : Rt) (w : World) (hr : r.Ok) : Calls Try.prog 83 #[r.V] w fun e w' => e = .returned (lifeV r.id r.gen) ∧ Ex w w' := by
  obtain ⟨cs, hcs⟩ : ∃ cs, cs = r.C.toArray := ⟨_, rfl⟩
  have A0 : Hid (RB ((w.alloc (.cells cs 83)).alloc (.cells z5 153)) w.heap.size r) := Lib.hid ⟨hr, by rw [hcs]; exact (Bk.new rfl _ _).more _⟩
  have L0 : Hid (Bk ((w.alloc (.cells cs 83)).alloc (.cells z5 153)) (w.heap.size + 1) 153 z5) := Lib.hid (Bk.new (by simp) _ _)
  have BW : Hid (Ex w ((w.alloc (.cells cs 83)).alloc (.cells z5 153))) := Lib.hid (Ex.trans (Ex.alloc w _) (Ex.alloc _ _))
  rw [show (Calls Try.prog 83 #[r.V] w) = (Calls Try.prog 83 #[.agg cs] w) by rw [hcs]; rfl]
  clear hcs
  have HR := Lib.hid hr
  clear hr
  go_enter Try.func83, Try.ntmps83
  go_wp2_with ((with_reducible refine so2 [1000+153] ?_ ?_); (focus rfl))
  (with_reducible refine ⟨?_⟩)
  change wpList _ _ _ _ _ ((w.alloc (.cells cs 83)).alloc (.cells z5 153))
  generalize hw1 : ((w.alloc (.cells cs 83)).alloc (.cells z5 153)) = w1 at *
  clear hw1
  obtain ⟨B, hB⟩ : ∃ B, B = w.heap.size := ⟨_, rfl⟩
  rw [← hB] at A0 L0 ⊢
  have HB := Lib.hid hB
  clear hB
  have a5 := A0.out.cells.2.1
  (with_reducible refine at_any ?_ ?_); (focus go_simp); refine fun K0 hK => ld_rid _ _ r rfl rfl A0.out (hK _ _ ?_)
  clear hK
  go_wp2_with ((with_reducible refine so2 [1000+153] ?_ ?_); (focus rfl))
  (with_reducible refine at9 ?_ ?_); (focus go_simp); refine fun K0 hK => wp_build _ _ rfl _ (built_life r.id r.gen HR.out.idN) (hK _ _ ?_)
  clear hK a5
  go_wp2_with ((with_reducible refine so2 [1000+153] ?_ ?_); (focus rfl))
  (with_reducible refine at9 ?_ ?_); (focus go_simp); refine fun K0 hK => st_life _ _ (B + 1) r.id r.gen HR.out.idN rfl rfl rfl L0.out rfl (fun w2 hd ho => hK _ _ ?_)
  clear hK
  have x2 : Ex w w2 := ho.below w.heap.size (by rw [← HB.out]; omega) w BW.out
  go_wp2_with fail
  exact bodyPost_ret (res_life rfl _ _ (B + 1) rfl r.id r.gen HR.out.idN hd) rfl ⟨rfl, x2⟩
set_option maxHeartbeats 4000000 in
set_option maxRecDepth 100000 in
theorem tells_any (r : Rt) (w : World) (hr : r.Ok) : Calls Try.prog 84 #[r.V] w fun e w' => e = .returned (.bool (decide (r.why = 0 ∧ 0 < r.sec.l.length))) ∧ Ex w w' := by
  obtain ⟨cs, hcs⟩ : ∃ cs, cs = r.C.toArray := ⟨_, rfl⟩
  have A0 : Hid (RB (w.alloc (.cells cs 83)) w.heap.size r) := Lib.hid ⟨hr, by rw [hcs]; exact Bk.new rfl _ _⟩
  have BW : Hid (Ex w (w.alloc (.cells cs 83))) := Lib.hid (Ex.alloc w _)
  rw [show (Calls Try.prog 84 #[r.V] w) = (Calls Try.prog 84 #[.agg cs] w) by rw [hcs]; rfl]
  clear hcs hr
  obtain ⟨a0, _, _, a7, _, _⟩ := A0.out.cells
  unfold Pt.V at a7
  obtain ⟨n, hn⟩ : ∃ n, n = r.sec.l.length := ⟨_, rfl⟩
  obtain ⟨y, hy⟩ : ∃ y, y = r.why := ⟨_, rfl⟩
  rw [← hn] at a7 ⊢
  rw [← hy] at a0 ⊢
  clear hn hy
  obtain ⟨z, hz⟩ : ∃ z, z = decide (y = 0 ∧ 0 < n) := ⟨_, rfl⟩
  rw [← hz]
  have HZ := Lib.hid hz
  clear hz
  by_cases h0 : y = 0
  · subst h0
    by_cases h1 : 0 < n
    · have h1i : (0 : Int) < (n : Int) := by omega
      go_enter Try.func84, Try.ntmps84
      go_wp2_with fail
      go_ret
      have hz1 : z = true := by rw [HZ.out]; simp [h1]
      exact ⟨congrArg (fun b => Ending.returned (.bool b)) hz1.symm, BW.out⟩
    have h1i : ¬ (0 : Int) < (n : Int) := by omega
    go_enter Try.func84, Try.ntmps84
    go_wp2_with fail
    go_ret
    have hz1 : z = false := by rw [HZ.out]; simp; omega
    exact ⟨congrArg (fun b => Ending.returned (.bool b)) hz1.symm, BW.out⟩
  go_enter Try.func84, Try.ntmps84
  go_wp2_with fail
  go_ret
  have hz1 : z = false := by rw [HZ.out, decide_eq_false (fun h => h0 h.1)]
  exact ⟨congrArg (fun b => Ending.returned (.bool b)) hz1.symm, BW.out⟩
def fields153x : List Field := [⟨ "id", 32, 0, false, "", "claviger/judge", 0⟩, ⟨ "gen", 24, 4, false, "", "claviger/judge", 8⟩]
theorem fields153x_is : (Try.prog.fieldsOf 153).toList = fields153x := by
  unfold Program.fieldsOf
  rw [Try.underlying153]
  rfl
theorem under153x : Try.prog.underlying 153 = some (.struct (Try.prog.fieldsOf 153)) := by
  unfold Program.fieldsOf; rw [Try.underlying153]
theorem Try.guardLife : Try.prog.eqGuardType Try.prog.depth 153 = false := by kernel_rfl
theorem Try.stoodLife : Try.prog.stoodInHeld 153 = false := by kernel_rfl
theorem Try.isAggId (w : World) : (isAgg 32).run Try.prog w = .ok true w := by
  unfold isAgg; simp [run_underlying Try.underlying32, go_sem]
theorem part_int {t : TypeId} {xs : Array Value} {off : Nat} {v : Value} (w : World) (ha : (isAgg t).run Try.prog w = .ok false w) (hx : xs[off]? = some v) : (part t xs off).run Try.prog w = .ok v w := by
  unfold part
  simp only [Sem.run_bind, ha, Result.andThen_ok, Bool.false_eq_true, if_false, hx, Sem.run_pure]
theorem agg_no {t : TypeId} (w : World) {k : IntKind} (h : Try.prog.underlying t = some (.int k)) : (isAgg t).run Try.prog w = .ok false w := by
  unfold isAgg; simp [run_underlying h, go_sem]
theorem size_run {t : TypeId} {n : Nat} (w : World) (h : (Try.prog.info? t).map (·.size) = some n) : (sizeOf t).run Try.prog w = .ok n w := by
  cases hq : Try.prog.info? t with
  | none => rw [hq] at h; cases h
  | some i =>
    rw [hq] at h
    obtain rfl : i.size = n := by simpa using h
    have : (typeInfo t).run Try.prog w = .ok i w := by unfold typeInfo; simp [go_sem, hq, Sem.run_bind]
    unfold sizeOf; simp [Sem.run_bind, this]
theorem eqf_cons (w : World) (d : Nat) (X Y : Array Value) (f : Field) (fs : List Field) (a b : Value) (z : Bool) (hn : f.name ≠ "_") (pa : (part f.type X f.offset).run Try.prog w = .ok a w) (pb : (part f.type Y f.offset).run Try.prog w = .ok b w) (he : (Op.equalIn d f.type a b).run Try.prog w = .ok z w) :
    (Op.eqFields d X Y (f :: fs)).run Try.prog w = if z = true then (Op.eqFields d X Y fs).run Try.prog w else .ok false w := by
  rw [Op.eqFields, if_pos hn]
  simp only [Sem.run_bind, pa, pb, Result.andThen_ok, he]
  cases z <;> simp [Sem.run_pure]
theorem part_id (w : World) (id : List UInt8) (g : Int) (h : id.length = 4) : (part 32 (lifeC id g).toArray 0).run Try.prog w = .ok (digV id) w := by
  unfold part
  simp only [Sem.run_bind, Try.isAggId, Result.andThen_ok, if_true]
  rw [size_run w Try.sizeId]
  simp only [Result.andThen_ok, Sem.run_pure]
  congr 1
  unfold digV
  congr 1
  apply Array.ext'
  unfold lifeC
  have h16 := byteCells_len id
  rw [h] at h16
  simp [List.take_of_length_le (Nat.le_of_eq h16), h16]
theorem part_gen (w : World) (id : List UInt8) (g : Int) (h : id.length = 4) : (part 24 (lifeC id g).toArray 4).run Try.prog w = .ok (.int .u64 g) w :=
  part_int w (agg_no w Try.underlying24) (by
    rw [List.getElem?_toArray]; unfold lifeC
    rw [List.getElem?_append_right (by rw [byteCells_len, h]; exact Nat.le_refl _), byteCells_len, h]; rfl)
theorem eq_life (w : World) (d : Nat) (l m : List UInt8) (g n : Int) (hl : l.length = 4) (hm : m.length = 4) : (Op.equalIn (d + 3) 153 (lifeV l g) (lifeV m n)).run Try.prog w = .ok (decide (l = m ∧ g = n)) w := by
  have e1 := eq_id w d l m hl hm
  have e2 : (Op.equalIn (d + 2) 24 (.int .u64 g) (.int .u64 n)).run Try.prog w = .ok (g == n) w := run_equalIn_int w (d + 1) 24 .u64 .u64 g n Try.underlying24
  unfold lifeV
  rw [run_equalIn_struct w (d + 2) 153 _ _ under153x Try.stoodLife, fields153x_is]
  unfold fields153x
  refine (eqf_cons w (d + 2) _ _ ⟨ "id", 32, 0, false, "", "claviger/judge", 0⟩ _ (digV l) (digV m) _ (by decide) (part_id w l g hl) (part_id w m n hm) e1).trans ?_
  have h2 := eqf_cons w (d + 2) (lifeC l g).toArray (lifeC m n).toArray ⟨ "gen", 24, 4, false, "", "claviger/judge", 8⟩ [] (.int .u64 g) (.int .u64 n) _ (by decide) (part_gen w l g hl) (part_gen w m n hm) e2
  rw [h2]
  have e0 : (Op.eqFields (d + 2) (lifeC l g).toArray (lifeC m n).toArray []).run Try.prog w = .ok true w := rfl
  rw [e0]
  by_cases h1 : l = m
  · by_cases h3 : g = n
    · simp [h1, h3]
    simp [h1, h3]
  simp [h1]
theorem wp_eql_life {o : Oper} {a : Act} {w : World} {K : Act → World → Prop} {Q : Exit → Act → World → Prop} (t' : TypeId) (x y : Operand) (ho : o.op = .binOp .eql 153 x y t') (l m : List UInt8) (g n : Int) (hl : l.length = 4) (hm : m.length = 4)
    (hx : a.eval x = lifeV l g) (hy : a.eval y = lifeV m n) (h : K (a.put o.dst (.bool (decide (l = m ∧ g = n)))) w) : o.wp Try.prog a w K Q := by
  have heq := eq_life w 9997 l m g n hl hm
  unfold Oper.wp execOp
  simp only [ho, hx, hy]
  unfold lifeV at heq ⊢
  simp [run_eqGuard_agg, run_eql_struct, Try.guardLife, heq, Sem.run_bind, Result.andThen, Oper.upon]
  simpa using h
end Go.Proofs.Ytmjfnpmnhehnkaa
namespace Go.Proofs.Ytmjfnpmnhehnkaa
open Go.RowKit
structure Sx where
 holds : Value → World → Prop
 stab : ∀ v w w', holds v w → Ex w w' → holds v w'
 fixed : Bool
 fix : fixed = true → ∀ v w w', holds v w → holds v w'
def Sx.is (x : Value) : Sx := ⟨fun v _ => v = x, fun _ _ _ h _ => h, true, fun _ _ _ _ h => h⟩
def Sx.any : Sx := ⟨fun _ _ => True, fun _ _ _ _ _ => trivial, true, fun _ _ _ _ _ => trivial⟩
def Sx.of (H : Value → World → Prop) (st : ∀ v w w', H v w → Ex w w' → H v w') : Sx := ⟨H, st, false, fun h => by cases h⟩
structure JE (base : World) (T : List Sx) (cons : List (Option Nat)) (prs : List (Nat × Nat)) (c1 c2 : Nat) (Fin : World → Prop) (listed : Array Bool) (f : Nat → Value) (w : World) : Prop where
 vals : ∀ i, listed.getD i false = true → (∀ c, cons.getD i none = some c → listed.getD c false = false) → (T.getD i .any).holds (f i) w
 pre : listed.getD c1 false = false → Ex base w
 fin : listed.getD c2 false = true → Fin w
 ord : ∀ x ∈ prs, listed.getD x.1 false = true → listed.getD x.2 false = true
section
variable {base : World} {T : List Sx} {cons : List (Option Nat)} {prs : List (Nat × Nat)} {c1 c2 : Nat} {Fin : World → Prop}
theorem JE.start (listed : Array Bool) (f : Nat → Value) (h0 : ∀ i, listed.getD i false = false) : JE base T cons prs c1 c2 Fin listed f base.drew :=
 ⟨fun i hi => absurd hi (by rw [h0 i]; decide), fun _ => (Below.refl base.heap.size base).drew, fun h => absurd h (by rw [h0 c2]; decide), fun x _ hx => absurd hx (by rw [h0 x.1]; decide)⟩
theorem JE.plain {listed : Array Bool} {f : Nat → Value} {w w' : World} (h : JE base T cons prs c1 c2 Fin listed f w) {i : Nat} (hi : i < listed.size) {v : Value} (hF : ∀ w w', Fin w → Ex w w' → Fin w') (h2 : i ≠ c2) (k : Ex w w') (hv : (T.getD i .any).holds v w') (ho : ∀ x ∈ prs, x.1 = i → listed.getD x.2 false = true) :
  JE base T cons prs c1 c2 Fin (listed.setIfInBounds i true) (upd f i v) w' := by
 have mono : ∀ c, listed.getD c false = true → (listed.setIfInBounds i true).getD c false = true := fun c hc => by
  by_cases e : i = c
  ·subst e; exact set_new hi
  rw [gset e false]; exact hc
 refine ⟨fun j hj hcj => ?_, fun hp => Ex.trans (h.pre (set_falseR hp)) k, fun hl => ?_, fun x hx h1 => ?_⟩
 ·by_cases e : j = i
  ·subst e; rw [upd_same]; exact hv
  rw [upd_ne _ _ e]
  have hj' : listed.getD j false = true := by
   rcases listed_set hj with rfl | hj
   ·exact absurd rfl e
   exact hj
  exact (T.getD j .any).stab _ _ _ (h.vals j hj' (fun c hcc => set_falseR (hcj c hcc))) k
 ·rw [gset h2 false] at hl
  exact hF _ _ (h.fin hl) k
 rcases listed_set h1 with e | h1
 ·exact mono _ (ho x hx e)
 exact mono _ (h.ord x hx h1)
theorem JE.mod {listed : Array Bool} {f : Nat → Value} {w w' : World} (h : JE base T cons prs c1 c2 Fin listed f w) {i : Nat} (hi : i < listed.size) {v : Value} {fx : List Bool} (hfx : T.map Sx.fixed = fx) (hv : (T.getD i .any).holds v w')
  (hc : ∀ j, j ≠ i → fx.getD j true = false → listed.getD j false = true → ∃ c, cons.getD j none = some c ∧ (c = i ∨ listed.getD c false = true))
  (hp : c1 = i ∨ listed.getD c1 false = true) (hf : (listed.setIfInBounds i true).getD c2 false = true → Fin w') (ho : ∀ x ∈ prs, x.1 = i → listed.getD x.2 false = true) :
  JE base T cons prs c1 c2 Fin (listed.setIfInBounds i true) (upd f i v) w' := by
 have new := set_new hi
 have mono : ∀ c, listed.getD c false = true → (listed.setIfInBounds i true).getD c false = true := fun c hc => by
  by_cases e : i = c
  ·subst e; exact new
  rw [gset e false]; exact hc
 refine ⟨fun j hj hcj => ?_, fun hp' => ?_, hf, fun x hx h1 => ?_⟩
 ·by_cases e : j = i
  ·subst e; rw [upd_same]; exact hv
  rw [upd_ne _ _ e]
  have hj' : listed.getD j false = true := by
   rcases listed_set hj with rfl | hj
   ·exact absurd rfl e
   exact hj
  have hold := h.vals j hj' (fun c hcc => set_falseR (hcj c hcc))
  cases hx : (T.getD j .any).fixed with
  | true => exact (T.getD j .any).fix hx _ _ _ hold
  | false =>
   have ht : fx.getD j true = false := by
    rw [← hfx, List.getD_eq_getElem?_getD, List.getElem?_map]
    rw [List.getD_eq_getElem?_getD] at hx
    cases hT : T[j]? with
    | none => rw [hT] at hx; exact absurd hx (by decide)
    | some s => rw [hT] at hx; exact hx
   obtain ⟨c, hcc, hci⟩ := hc j e ht hj'
   have := hcj c hcc
   rcases hci with rfl | hci
   ·rw [new] at this; cases this
   rw [mono c hci] at this; cases this
 ·rcases hp with rfl | hp
  ·rw [new] at hp'; cases hp'
  rw [mono _ hp] at hp'; cases hp'
 rcases listed_set h1 with e | h1
 ·exact mono _ (ho x hx e)
 exact mono _ (h.ord x hx h1)
end
end Go.Proofs.Ytmjfnpmnhehnkaa
namespace Go.Proofs.Ytmjfnpmnhehnkaa
open Go.RowKit
/-- an ID as a number -/
def idn : List UInt8 → Nat
 | [a, b, c, d] => a.toNat * 16777216 + b.toNat * 65536 + c.toNat * 256 + d.toNat
 | _ => 0
def cmpN (a b : Nat) : Int := if a < b then -1 else if b < a then 1 else 0
theorem cmp_step (a p A B M : Nat) (hA : A < M) (hB : B < M) : (if a < p then -1 else if p < a then 1 else cmpN A B) = cmpN (a * M + A) (p * M + B) := by
 rcases Nat.lt_trichotomy a p with h | h | h
 ·have h1 : (a + 1) * M ≤ p * M := Nat.mul_le_mul_right _ h
  rw [Nat.add_mul, Nat.one_mul] at h1
  unfold cmpN
  rw [if_pos h, if_pos (by omega)]
 ·subst h
  unfold cmpN
  rw [if_neg (by omega), if_neg (by omega)]
  by_cases h1 : A < B
  ·rw [if_pos h1, if_pos (by omega)]
  rw [if_neg h1, if_neg (by omega : ¬ a * M + A < a * M + B)]
  by_cases h2 : B < A
  ·rw [if_pos h2, if_pos (by omega)]
  rw [if_neg h2, if_neg (by omega)]
 have h1 : (p + 1) * M ≤ a * M := Nat.mul_le_mul_right _ h
 rw [Nat.add_mul, Nat.one_mul] at h1
 unfold cmpN
 rw [if_neg (by omega), if_pos h, if_neg (by omega), if_pos (by omega)]
theorem cmp_idn {x y : List UInt8} (hx : x.length = 4) (hy : y.length = 4) : Lib.compareBytes x y = cmpN (idn x) (idn y) := by
 obtain ⟨a, b, c, d, rfl⟩ := len4 hx
 obtain ⟨p, q, r, s, rfl⟩ := len4 hy
 have ha := a.toNat_lt; have hb := b.toNat_lt; have hc := c.toNat_lt; have hd := d.toNat_lt
 have hp := p.toNat_lt; have hq := q.toNat_lt; have hr := r.toNat_lt; have hs := s.toNat_lt
 have e0 : Lib.compareBytes [d] [s] = cmpN d.toNat s.toNat := by
  simp only [Lib.compareBytes, cmpN, UInt8.lt_iff_toNat_lt]
 have e1 := cmp_step c.toNat r.toNat d.toNat s.toNat 256 hd hs
 have e2 := cmp_step b.toNat q.toNat (c.toNat * 256 + d.toNat) (r.toNat * 256 + s.toNat) 65536 (by omega) (by omega)
 have e3 := cmp_step a.toNat p.toNat (b.toNat * 65536 + (c.toNat * 256 + d.toNat)) (q.toNat * 65536 + (r.toNat * 256 + s.toNat)) 16777216 (by omega) (by omega)
 have u : ∀ (a p : UInt8) (A B : List UInt8), Lib.compareBytes (a :: A) (p :: B) = if a.toNat < p.toNat then -1 else if p.toNat < a.toNat then 1 else Lib.compareBytes A B := fun a p A B => by
  simp only [Lib.compareBytes, UInt8.lt_iff_toNat_lt]
 rw [u, u, u, e0, e1, e2, e3]
 unfold idn
 simp only [Nat.add_assoc]
theorem idn_inj {x y : List UInt8} (hx : x.length = 4) (hy : y.length = 4) (h : idn x = idn y) : x = y := by
 obtain ⟨a, b, c, d, rfl⟩ := len4 hx
 obtain ⟨p, q, r, s, rfl⟩ := len4 hy
 have ha := a.toNat_lt; have hb := b.toNat_lt; have hc := c.toNat_lt; have hd := d.toNat_lt
 have hp := p.toNat_lt; have hq := q.toNat_lt; have hr := r.toNat_lt; have hs := s.toNat_lt
 simp only [idn] at h
 have e1 : a = p := UInt8.toNat_inj.1 (by omega)
 have e2 : b = q := UInt8.toNat_inj.1 (by omega)
 have e3 : c = r := UInt8.toNat_inj.1 (by omega)
 have e4 : d = s := UInt8.toNat_inj.1 (by omega)
 rw [e1, e2, e3, e4]
theorem run_bytesOf (w : World) (p : Pt) {B : Nat} (h : p.In w B) : (Extern.Bytes.bytesOf p.V).run Try.prog w = .ok ⟨p.l.toArray⟩ w := by
 unfold Pt.V
 cases ha : p.ad with
 | none =>
  have := h.nil ha
  have hl : p.l = [] := List.eq_nil_of_length_eq_zero (by have := h.cap; omega)
  rw [hl]; rfl
 | some A =>
  have hb := Lib.run_loadBytesX (P := Try.prog) w (p.l.map fun b => (b.toNat : Int)) A .empty (fun j x hj => by
   rw [List.getElem?_map] at hj
   have h0 : 0 < p.l.length := by
    cases hq : p.l[j]? with
    | none => rw [hq] at hj; cases hj
    | some _ => have := (List.getElem?_eq_some_iff.1 hq).1; omega
   obtain ⟨a, o, e, _, hc⟩ := h.read h0
   rw [ha] at e; cases e
   cases hq : p.l[j]? with
   | none => rw [hq] at hj; cases hj
   | some b =>
    rw [hq] at hj
    cases hj
    have hjl := (List.getElem?_eq_some_iff.1 hq).1
    rw [Addr.add_lit, hc j hjl, List.getD_eq_getElem?_getD, hq]; rfl)
  rw [List.length_map] at hb
  have e : (⟨ByteArray.empty.data ++ (Lib.bytesOf (p.l.map fun b => (b.toNat : Int))).toArray⟩ : ByteArray) = ⟨p.l.toArray⟩ := by
   apply ByteArray.ext
   show (#[] : Array UInt8) ++ (Lib.bytesOf (p.l.map fun b => (b.toNat : Int))).toArray = p.l.toArray
   rw [Array.empty_append]
   congr 1
   unfold Lib.bytesOf
   rw [List.map_map]
   exact map_back p.l
  rw [e] at hb
  exact hb
theorem run_cmp (w : World) (p q : Pt) {B B' : Nat} (hp : p.In w B) (hq : q.In w B') : (Extern.BytealgCompare.compare #[p.V, q.V]).run Try.prog w = .ok (.int .i64 (Lib.compareBytes p.l q.l)) w := by
 change Sem.run Try.prog (do pure (goInt (Extern.BytealgCompare.cmp (← Extern.Bytes.bytesOf p.V) (← Extern.Bytes.bytesOf q.V)))) w = _
 simp only [Sem.run_bind, Sem.run_pure, run_bytesOf w p hp, run_bytesOf w q hq, Result.andThen]
 rw [Lib.cmp_eq]
 rfl
set_option maxRecDepth 100000 in
theorem bcmp_any (p q : Pt) (w : World) {B B' : Nat} (hp : p.In w B) (hq : q.In w B') : Calls Try.prog 134 #[p.V, q.V] w fun e w' => e = .returned (.int .i64 (Lib.compareBytes p.l q.l)) ∧ w = w' := by
 have hr := run_cmp w p q hp hq
 obtain ⟨r, hrr⟩ : ∃ r, r = Lib.compareBytes p.l q.l := ⟨_, rfl⟩
 rw [← hrr] at hr ⊢
 clear hrr hp hq
 unfold Pt.V at *
 generalize p.l.length = n1 at *
 generalize q.l.length = n2 at *
 go_enter Try.func134, Try.ntmps134
 go_wp2
 rw [run_callFunc_extern Try.func145 (by kernel_rfl) (by kernel_rfl) (by kernel_rfl) (e := Extern.BytealgCompare.compare) (by kernel_rfl), hr]
 simp only [Result.andThen]
 rw [Oper.upon_value]
 go_wp2
 go_ret
 exact ⟨rfl, rfl⟩
end Go.Proofs.Ytmjfnpmnhehnkaa
