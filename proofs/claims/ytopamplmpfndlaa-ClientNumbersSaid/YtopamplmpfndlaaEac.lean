/- FlR, FlS, FlT, Ta, Tb, Tc, Td, Te, Tf, FlK -/
import Derived.Test.YtopamplmpfndlaaEab
import Derived.Laws.Slices
import Derived.Lib.BytesEntry
import Derived.Lib.Overlaps
import Derived.Laws.CopyRow
set_option maxRecDepth 100000
set_option maxHeartbeats 16000000
namespace Go.Proofs.Ytopamplmpfndlaa
open Go.RowKit
structure Kt (S : List Nat) (B : Nat) (w w' : World) : Prop where
 below : Below B w w'
 typ : ∀ (h : Nat) (cs : Array Value) (t : TypeId) (fr : Nat × Nat), w.heap[h]? = some (.cells cs t fr) → t ∉ S → w'.heap[h]? = some (.cells cs t fr)
theorem Kt.size {S : List Nat} {B : Nat} {w w' : World} (h : Kt S B w w') : w.heap.size ≤ w'.heap.size := h.below.size
theorem Kt.refl (S : List Nat) (B : Nat) (w : World) : Kt S B w w := ⟨Below.refl _ _, fun _ _ _ _ h _ => h⟩
theorem Kt.trans {S : List Nat} {B : Nat} {a b c : World} (h : Kt S B a b) (k : Kt S B b c) : Kt S B a c := ⟨h.below.trans k.below, fun i cs t fr hi h1 => k.typ i cs t fr (h.typ i cs t fr hi h1) h1⟩
theorem Kt.mono {S S' : List Nat} {B : Nat} {a b : World} (h : Kt S B a b) (hs : ∀ x ∈ S, x ∈ S') : Kt S' B a b := ⟨h.below, fun i cs t fr hi h1 => h.typ i cs t fr hi (fun hx => h1 (hs _ hx))⟩
theorem blk_lt {w : World} {g : Nat} {o : Obj} (h : w.heap[g]? = some o) : g < w.heap.size := (Array.getElem?_eq_some_iff.1 h).1
theorem Ex.kt {S : List Nat} {B : Nat} {w w' : World} (h : Ex w w') (hB : B ≤ w.heap.size) : Kt S B w w' := ⟨h.mono hB, fun i _ _ _ hi _ => (h.block i (blk_lt hi)).trans hi⟩
theorem Kt.bk {S : List Nat} {B g : Nat} {w w' : World} {t : TypeId} {cs : Array Value} (h : Kt S B w w') (hb : Bk w g t cs) (ht : t ∉ S) : Bk w' g t cs := h.typ _ _ _ _ hb ht
theorem Kt.grown {w w' : World} {B : Nat} {e : TypeId} {sz n : Nat} {v : Value} {xs : List Value} (h : w.ownsRow B e sz v n xs) (k : w.grownBy w' v.ownBlock) (hB : B ≤ w.heap.size) : Kt [e] B w w' := by
 refine ⟨(Below.refl B w).grown k hB (fun j hj => (h.lt j hj).1), fun i cs t fr hi h1 => (k.block i (blk_lt hi) ?_).trans hi⟩
 intro he
 obtain ⟨_, ⟨hv, _⟩ | ⟨g, cap, cur, hv, _, hg, _⟩⟩ := h
 ·rw [hv] at he; cases he
 rw [hv] at he
 obtain rfl : i = g := by simpa [Value.ownBlock] using he
 rw [hg] at hi
 injection hi with hi
 injection hi with _ h2
 exact h1 (by rw [← h2]; exact List.mem_singleton.2 rfl)
theorem Kt.md {S : List Nat} {B g : Nat} {w w' : World} {t : TypeId} {cs : Array Value} (k : Md g w w') (hg : B ≤ g) (hb : Bk w g t cs) (ht : t ∈ S) : Kt S B w w' :=
 ⟨k.below B hg _ (Below.refl _ _), fun i cs' t' fr hi h1 => by
  refine (k.other i ?_ (blk_lt hi)).trans hi
  rintro rfl
  unfold Bk at hb
  rw [hb] at hi
  injection hi with hi
  injection hi with _ hi
  exact h1 (by rw [← hi]; exact ht)⟩
theorem Kt.row {S : List Nat} {B B' : Nat} {w w' : World} {e : TypeId} {sz n : Nat} {v : Value} {xs : List Value} (k : Kt S B w w') (h : w.ownsRow B' e sz v n xs) (he : e ∉ S) : w'.ownsRow B' e sz v n xs := by
 refine ⟨h.1, h.2.imp id fun ⟨g, cap, cur, hv, hb, hg, hr⟩ => ⟨g, cap, cur, hv, hb, k.typ _ _ _ _ hg he, hr⟩⟩
theorem Ex.row {B' : Nat} {w w' : World} {e : TypeId} {sz n : Nat} {v : Value} {xs : List Value} (k : Ex w w') (h : w.ownsRow B' e sz v n xs) : w'.ownsRow B' e sz v n xs :=
 (Ex.kt (S := []) (B := 0) k (Nat.zero_le _)).row h (by simp)
structure Rv (B : Nat) where
 ty : Nat
 holds : Value → World → Prop
 stab : ∀ S v w w', holds v w → Kt S B w w' → ty ∉ S → holds v w'
def Rv.is {B : Nat} (x : Value) : Rv B := ⟨0, fun v _ => v = x, fun _ _ _ _ h _ _ => h⟩
def Rv.any {B : Nat} : Rv B := ⟨0, fun _ _ => True, fun _ _ _ _ _ _ _ => trivial⟩
def Rv.own {B : Nat} (e : TypeId) (sz n : Nat) (xs : List Value) : Rv B := ⟨e, fun v w => w.ownsRow B e sz v n xs, fun _ _ _ _ h k hs => k.row h hs⟩
theorem set_falseR {l : Array Bool} {i k : Nat} (h : (l.setIfInBounds i true).getD k false = false) : l.getD k false = false := by
 by_cases e : i = k
 ·subst e
  rw [Array.getD_eq_getD_getElem?] at h ⊢
  by_cases hi : i < l.size
  ·rw [Array.getElem?_setIfInBounds_self_of_lt hi] at h; cases h
  rw [Array.getElem?_eq_none (by omega)]; rfl
 rw [gset e false] at h; exact h
structure JR (B : Nat) (base : World) (S : List Nat) (T : List (Rv B)) (tys : List Nat) (cons : List (Option Nat)) (prs : List (Nat × Nat)) (listed : Array Bool) (f : Nat → Value) (w : World) : Prop where
 lo : B ≤ w.heap.size
 ext : Kt S B base w
 vals : ∀ i, listed.getD i false = true → (∀ c, cons.getD i none = some c → listed.getD c false = false) → (T.getD i .any).holds (f i) w
 ord : ∀ x ∈ prs, listed.getD x.1 false = true → listed.getD x.2 false = true
theorem JR.start {B : Nat} {base : World} {S : List Nat} {T : List (Rv B)} {tys : List Nat} {cons : List (Option Nat)} {prs : List (Nat × Nat)} (hB : B ≤ base.heap.size) (listed : Array Bool) (f : Nat → Value) (h0 : ∀ i, listed.getD i false = false) : JR B base S T tys cons prs listed f base.drew :=
 ⟨hB, Ex.kt (show Ex base base.drew from (Below.refl base.heap.size base).drew) hB, fun i hi => absurd hi (by rw [h0 i]; decide), fun x _ hx => absurd hx (by rw [h0 x.1]; decide)⟩
theorem JR.next {B : Nat} {base : World} {S : List Nat} {T : List (Rv B)} {tys : List Nat} {cons : List (Option Nat)} {prs : List (Nat × Nat)} {listed : Array Bool} {f : Nat → Value} {w w' : World} (h : JR B base S T tys cons prs listed f w)
  (hty : T.map Rv.ty = tys) {i : Nat} (hi : i < listed.size) {v : Value} (S' : List Nat) (hS : ∀ x ∈ S', x ∈ S) (h0 : 0 ∉ S') (k : Kt S' B w w') (hv : (T.getD i .any).holds v w')
  (hc : ∀ j, j ≠ i → tys.getD j 0 ∈ S' → listed.getD j false = true → ∃ c, cons.getD j none = some c ∧ (c = i ∨ listed.getD c false = true))
  (ho : ∀ x ∈ prs, x.1 = i → listed.getD x.2 false = true) : JR B base S T tys cons prs (listed.setIfInBounds i true) (upd f i v) w' := by
 have new : (listed.setIfInBounds i true).getD i false = true := by
  rw [Array.getD_eq_getD_getElem?, Array.getElem?_setIfInBounds_self_of_lt hi]; rfl
 have mono : ∀ c, listed.getD c false = true → (listed.setIfInBounds i true).getD c false = true := fun c hc => by
  by_cases e : i = c
  ·subst e; exact new
  ·rw [gset e false]; exact hc
 refine ⟨Nat.le_trans h.lo k.size, h.ext.trans (k.mono hS), fun j hj hcj => ?_, fun x hx h1 => ?_⟩
 ·by_cases e : j = i
  ·subst e; rw [upd_same]; exact hv
  rw [upd_ne _ _ e]
  have hj' : listed.getD j false = true := by
   rcases listed_set hj with rfl | hj
   ·exact absurd rfl e
   ·exact hj
  have hold := h.vals j hj' (fun c hcc => set_falseR (hcj c hcc))
  refine (T.getD j .any).stab S' _ _ _ hold k ?_
  have ht : (T.getD j .any).ty = tys.getD j 0 := by
   rw [← hty, List.getD_eq_getElem?_getD, List.getD_eq_getElem?_getD, List.getElem?_map]
   cases T[j]? <;> rfl
  rw [ht]
  intro hin
  obtain ⟨c, hcc, hci⟩ := hc j e hin hj'
  have := hcj c hcc
  rcases hci with rfl | hci
  ·rw [new] at this; cases this
  rw [mono c hci] at this; cases this
 rcases listed_set h1 with e | h1
 ·exact mono _ (ho x hx e)
 exact mono _ (h.ord x hx h1)
theorem JR.plain {B : Nat} {base : World} {S : List Nat} {T : List (Rv B)} {tys : List Nat} {cons : List (Option Nat)} {prs : List (Nat × Nat)} {listed : Array Bool} {f : Nat → Value} {w w' : World} (h : JR B base S T tys cons prs listed f w)
  (hty : T.map Rv.ty = tys) {i : Nat} (hi : i < listed.size) {v : Value} (k : Ex w w') (hv : (T.getD i .any).holds v w')
  (ho : ∀ x ∈ prs, x.1 = i → listed.getD x.2 false = true) : JR B base S T tys cons prs (listed.setIfInBounds i true) (upd f i v) w' :=
 h.next hty hi [] (by simp) (by simp) (k.kt h.lo) hv (by simp) ho
theorem wp_rapp {o : Oper} {a : Act} {w : World} {K : Act → World → Prop} {Q : Exit → Act → World → Prop} (s x : Operand) (t e : TypeId) (z : Value) (sz bytes : Nat)
  (hop : o.op = .call { callee := .builtin .append, args := #[s, x], argTypes := #[t, t] }) (hu : Try.prog.underlying t = some (.slice e))
  (hinfo : (Try.prog.info? e).map (fun i => (i.zero, i.size, i.bytes)) = some (some z, sz, bytes)) (hz : z.cells.size = sz) (hp : 0 < sz)
  (B n : Nat) (v : Value) (xs : List Value) (hs : a.eval s = v) (hown : w.ownsRow B e sz v n xs) (hB : B ≤ w.heap.size)
  (ad : Option Addr) (m c : Nat) (ys : List Value) (hx : a.eval x = .slice ad m c) (hl : ys.length = m * sz) (hnil : ad = none → c = 0 ∧ m = 0)
  (hr : ∀ A, ad = some A → ∀ j u, ys[j]? = some u → w.cell? (A.add j) = some u) (h1 : ∀ u ∈ ys, u.oneCell' = true)
  (hN : n + m ≤ 9223372036854775807) (hby : (n + m) * bytes ≤ 140737488355328)
  (h : ∀ v' w', w'.ownsRow B e sz v' (n + m) (xs ++ ys) → Kt [e] B w w' → (v = .slice none 0 0 → Ex w w') → K (a.put o.dst v') w') : o.wp Try.prog a w K Q := by
 obtain ⟨i0, hi0, hz0, hz1, hz2⟩ := info_parts hinfo
 have key : ∃ v' w', (Builtin.append_ #[t, t] o.type #[v, .slice ad m c]).run Try.prog w = .ok v' w' ∧ w'.ownsRow B e sz v' (n + m) (xs ++ ys) ∧ Kt [e] B w w' ∧ (v = .slice none 0 0 → Ex w w') := by
  cases had : ad with
  | none =>
   obtain ⟨rfl, rfl⟩ := hnil had
   obtain rfl : ys = [] := List.eq_nil_of_length_eq_zero (by rw [hl]; exact Nat.zero_mul _)
   refine ⟨v, w, run_append_owned_none w B t o.type e i0 sz hu hi0 v n xs hown, ?_, Kt.refl _ _ _, fun _ => Ex.refl _⟩
   rw [List.append_nil]; exact hown
  | some A =>
   obtain ⟨v', w', hrun, r1, r2, _⟩ := run_append_own (P := Try.prog) w B t o.type e i0 z sz bytes hu hi0 hz0 hz1 hz2 hz hp v n xs hown A m c ys hl (hr A had) h1 hN hby hB
   exact ⟨v', w', hrun, r1, Kt.grown hown r2 hB, fun hv => (Below.refl _ _).grown r2 (Nat.le_refl _) (fun k hk => by rw [hv] at hk; cases hk)⟩
 obtain ⟨v', w', hrun, r1, r2, r3⟩ := key
 unfold Oper.wp
 simp [execOp, hop, resolve, invoke, builtin, hs, hx, hrun, Result.andThen]
 exact h v' w' r1 r2 r3
end Go.Proofs.Ytopamplmpfndlaa
namespace Go.Proofs.Ytopamplmpfndlaa
open Go.RowKit
structure Rd (w : World) (ad : Option Addr) (n sz : Nat) (ys : List Value) : Prop where
 len : ys.length = n * sz
 read : 0 < n → ∃ a o, ad = some ⟨a, o, none⟩ ∧ a < w.heap.size ∧ ∀ j u, ys[j]? = some u → w.cell? ⟨a, o + j, none⟩ = some u
theorem Rd.ext {w w' : World} {ad : Option Addr} {n sz : Nat} {ys : List Value} (h : Rd w ad n sz ys) (k : Ex w w') : Rd w' ad n sz ys := ⟨h.len, fun h0 => by
 obtain ⟨a, o, e, hl, hc⟩ := h.read h0
 exact ⟨a, o, e, Nat.lt_of_lt_of_le hl k.size, fun j u hu => (Below.cell (p := ⟨a, o + j, none⟩) k hl).trans (hc j u hu)⟩⟩
theorem Rd.at {w : World} {ad : Option Addr} {n sz : Nat} {ys : List Value} (h : Rd w ad n sz ys) (A : Addr) (hA : ad = some A) (j : Nat) (u : Value) (hu : ys[j]? = some u) : w.cell? (A.add j) = some u := by
 have h0 : 0 < n := by
  rcases Nat.eq_zero_or_pos n with h0 | h0
  ·have := (List.getElem?_eq_some_iff.1 hu).1
   rw [h.len, h0, Nat.zero_mul] at this; omega
  ·exact h0
 obtain ⟨a, o, e, hl, hc⟩ := h.read h0
 rw [e] at hA; cases hA
 rw [Addr.add_lit]
 exact hc j u hu
theorem own_rd {w : World} {B : Nat} {e : TypeId} {sz n : Nat} {v : Value} {xs : List Value} (h : w.ownsRow B e sz v n xs) : ∃ ad cap, v = .slice ad n cap ∧ (ad = none → cap = 0) ∧ n ≤ cap ∧ cap ≤ 9223372036854775807 ∧ Rd w ad n sz xs := by
 obtain ⟨h1, ⟨hv, h0⟩ | ⟨g, cap, cur, rfl, hb, hh, hc, hm, hs, ht⟩⟩ := h
 ·exact ⟨none, 0, by rw [h0]; exact hv, fun _ => rfl, by omega, by omega, ⟨h1, fun h => by omega⟩⟩
 refine ⟨some ⟨g, 0, none⟩, cap, rfl, (fun h => by cases h), hc, by simpa [maxLen] using hm, ⟨h1, fun _ => ⟨g, 0, rfl, (show Bk w g e cur from hh).lt, fun j u hu => ?_⟩⟩⟩
 rw [(show Bk w g e cur from hh).cell, Nat.zero_add, ← Array.getElem?_toList]
 rw [← ht, List.getElem?_take] at hu
 split at hu
 ·exact hu
 cases hu
theorem Rd.take {w : World} {ad : Option Addr} {n sz cap : Nat} {ys : List Value} (h : Rd w ad n sz ys) (hnil : ad = none → cap = 0) (hc : n ≤ cap) (k : Nat) (hk : k ≤ n) :
  ∃ ad', sliced ad 0 k cap sz = .slice ad' k cap ∧ (ad' = none → cap = 0) ∧ Rd w ad' k sz (ys.take (k * sz)) := by
 have hl : (ys.take (k * sz)).length = k * sz := by
  rw [List.length_take, h.len]
  exact Nat.min_eq_left (Nat.mul_le_mul_right _ hk)
 cases ad with
 | none =>
  have := hnil rfl
  exact ⟨none, by unfold sliced; simp, fun _ => this, ⟨hl, fun h => by omega⟩⟩
 | some A =>
  by_cases h0 : 0 < k
  ·obtain ⟨a, o, e, hla, hr⟩ := h.read (by omega)
   cases e
   refine ⟨some ⟨a, o, none⟩, by unfold sliced; rw [if_neg (by omega), Option.map_some, Nat.zero_mul, Addr.add_lit]; rfl, (fun h => by cases h), ⟨hl, fun _ => ⟨a, o, rfl, hla, fun j u hu => hr j u ?_⟩⟩⟩
   rw [List.getElem?_take] at hu
   split at hu
   ·exact hu
   ·cases hu
  ·obtain rfl : k = 0 := by omega
   refine ⟨_, rfl, fun hn => ?_, ⟨hl, fun h => absurd h (Nat.lt_irrefl 0)⟩⟩
   split at hn <;> simp at hn
theorem Rd.drop {w : World} {ad : Option Addr} {n sz cap : Nat} {ys : List Value} (h : Rd w ad n sz ys) (hnil : ad = none → cap = 0) (hc : n ≤ cap) (k : Nat) (hk : k ≤ n) :
  ∃ ad', sliced ad k n cap sz = .slice ad' (n - k) (cap - k) ∧ (ad' = none → cap - k = 0) ∧ Rd w ad' (n - k) sz (ys.drop (k * sz)) := by
 have hl : (ys.drop (k * sz)).length = (n - k) * sz := by
  rw [List.length_drop, h.len, Nat.sub_mul]
 cases ad with
 | none =>
  have := hnil rfl
  exact ⟨none, by unfold sliced; simp, fun _ => by omega, ⟨hl, fun h => by omega⟩⟩
 | some A =>
  by_cases h0 : k < n
  ·obtain ⟨a, o, e, hla, hr⟩ := h.read (by omega)
   cases e
   refine ⟨some ⟨a, o + k * sz, none⟩, by unfold sliced; rw [if_neg (by omega), Option.map_some, Addr.add_lit], (fun h => by cases h), ⟨hl, fun _ => ⟨a, o + k * sz, rfl, hla, fun j u hu => ?_⟩⟩⟩
   rw [List.getElem?_drop] at hu
   rw [Nat.add_assoc]
   exact hr _ u hu
  ·obtain rfl : k = n := by omega
   refine ⟨_, rfl, fun hn => ?_, ⟨hl, fun h => by omega⟩⟩
   split at hn <;> simp at hn
section
variable {o : Oper} {a : Act} {w : World} {K : Act → World → Prop} {Q : Exit → Act → World → Prop}
end
def Emp (B : Nat) (w : World) (e : TypeId) (v : Value) : Prop := ∃ g, v = .slice (some ⟨g, 0, none⟩) 0 0 ∧ B ≤ g ∧ Bk w g e #[]
theorem Emp.own {B : Nat} {w : World} {e : TypeId} {v : Value} (h : Emp B w e v) (sz : Nat) : w.ownsRow B e sz v 0 [] := by
 obtain ⟨g, rfl, hB, hb⟩ := h
 exact ⟨by simp, .inr ⟨g, 0, #[], rfl, hB, hb, Nat.le_refl _, by decide, by simp, by simp⟩⟩
def One (w : World) (e : TypeId) (cs : List Value) (v : Value) : Prop := ∃ g, v = .slice (some ⟨g, 0, none⟩) 1 1 ∧ Bk w g e cs.toArray
def Rv.emp {B : Nat} (e : TypeId) : Rv B := ⟨e, fun v w => Emp B w e v, fun _ _ _ _ ⟨g, h1, h2, h3⟩ k hs => ⟨g, h1, h2, k.bk h3 hs⟩⟩
def Rv.one {B : Nat} (e : TypeId) (cs : List Value) : Rv B := ⟨e, fun v w => One w e cs v, fun _ _ _ _ ⟨g, h1, h2⟩ k hs => ⟨g, h1, k.bk h2 hs⟩⟩
theorem One.rd {w : World} {e : TypeId} {cs : List Value} {v : Value} (h : One w e cs v) : ∃ ad, v = .slice ad 1 1 ∧ (ad = none → 1 = 0) ∧ Rd w ad 1 cs.length cs := by
 obtain ⟨g, rfl, hb⟩ := h
 refine ⟨_, rfl, (fun h => by cases h), ⟨by omega, fun _ => ⟨g, 0, rfl, hb.lt, fun j u hu => ?_⟩⟩⟩
 rw [Nat.zero_add, hb.cell]; simpa using hu
section
variable {o : Oper} {a : Act} {w : World} {K : Act → World → Prop} {Q : Exit → Act → World → Prop}
theorem wp_rd (s x : Operand) (t e : TypeId) (z : Value) (sz bytes : Nat)
  (hop : o.op = .call { callee := .builtin .append, args := #[s, x], argTypes := #[t, t] }) (hu : Try.prog.underlying t = some (.slice e))
  (hinfo : (Try.prog.info? e).map (fun i => (i.zero, i.size, i.bytes)) = some (some z, sz, bytes)) (hz : z.cells.size = sz) (hp : 0 < sz)
  (B n : Nat) (v : Value) (xs : List Value) (hs : a.eval s = v) (hown : w.ownsRow B e sz v n xs) (hB : B ≤ w.heap.size)
  (ad : Option Addr) (m c : Nat) (ys : List Value) (hx : a.eval x = .slice ad m c) (hrd : Rd w ad m sz ys) (hc : m ≤ c) (hnil : ad = none → c = 0) (h1 : ∀ u ∈ ys, u.oneCell' = true)
  (hN : n + m ≤ 9223372036854775807) (hby : (n + m) * bytes ≤ 140737488355328)
  (h : ∀ v' w', w'.ownsRow B e sz v' (n + m) (xs ++ ys) → Kt [e] B w w' → K (a.put o.dst v') w') : o.wp Try.prog a w K Q :=
 wp_rapp s x t e z sz bytes hop hu hinfo hz hp B n v xs hs hown hB ad m c ys hx hrd.len (fun hn => by have := hnil hn; exact ⟨this, by omega⟩) hrd.at h1 hN hby fun v' w' r1 r2 _ => h v' w' r1 r2
end
theorem rown_less {w : World} {B B' : Nat} {e : TypeId} {sz n : Nat} {v : Value} {xs : List Value} (h : w.ownsRow B e sz v n xs) (k : B' ≤ B) : w.ownsRow B' e sz v n xs :=
 ⟨h.1, h.2.imp id fun ⟨g, cap, cur, hv, hb, hr⟩ => ⟨g, cap, cur, hv, Nat.le_trans k hb, hr⟩⟩
end Go.Proofs.Ytopamplmpfndlaa
namespace Go.Proofs.Ytopamplmpfndlaa
open Go.RowKit
structure Rw (B : Nat) where
 tys : List Nat
 holds : Value → World → Prop
 stab : ∀ S v w w', holds v w → Kt S B w w' → (∀ t ∈ tys, t ∉ S) → holds v w'
def Rw.is {B : Nat} (x : Value) : Rw B := ⟨[], fun v _ => v = x, fun _ _ _ _ h _ _ => h⟩
def Rw.any {B : Nat} : Rw B := ⟨[], fun _ _ => True, fun _ _ _ _ _ _ _ => trivial⟩
def Rw.own {B : Nat} (e : TypeId) (sz n : Nat) (xs : List Value) : Rw B := ⟨[e], fun v w => w.ownsRow B e sz v n xs, fun _ _ _ _ h k hs => k.row h (hs e (List.mem_singleton.2 rfl))⟩
def Rw.emp {B : Nat} (e : TypeId) : Rw B := ⟨[e], fun v w => Emp B w e v, fun _ _ _ _ ⟨g, h1, h2, h3⟩ k hs => ⟨g, h1, h2, k.bk h3 (hs e (List.mem_singleton.2 rfl))⟩⟩
def Many (w : World) (e : TypeId) (n : Nat) (cs : List Value) (v : Value) : Prop := ∃ g, v = .slice (some ⟨g, 0, none⟩) n n ∧ Bk w g e cs.toArray
def Rw.many {B : Nat} (e : TypeId) (n : Nat) (cs : List Value) : Rw B := ⟨[e], fun v w => Many w e n cs v, fun _ _ _ _ ⟨g, h1, h2⟩ k hs => ⟨g, h1, k.bk h2 (hs e (List.mem_singleton.2 rfl))⟩⟩
theorem Many.rd {w : World} {e : TypeId} {n sz : Nat} {cs : List Value} {v : Value} (h : Many w e n cs v) (hl : cs.length = n * sz) : ∃ ad, v = .slice ad n n ∧ (ad = none → n = 0) ∧ Rd w ad n sz cs := by
 obtain ⟨g, rfl, hb⟩ := h
 refine ⟨_, rfl, (fun h => by cases h), ⟨hl, fun _ => ⟨g, 0, rfl, hb.lt, fun j u hu => ?_⟩⟩⟩
 rw [Nat.zero_add, hb.cell]; simpa using hu
structure JW (B : Nat) (base : World) (S : List Nat) (T : List (Rw B)) (tyss : List (List Nat)) (cons : List (Option Nat)) (prs : List (Nat × Nat)) (cut : Nat) (listed : Array Bool) (f : Nat → Value) (w : World) : Prop where
 lo : B ≤ w.heap.size
 ext : Kt S B base w
 vals : ∀ i, listed.getD i false = true → (∀ c, cons.getD i none = some c → listed.getD c false = false) → (T.getD i .any).holds (f i) w
 ord : ∀ x ∈ prs, listed.getD x.1 false = true → listed.getD x.2 false = true
 pre : listed.getD cut false = false → Ex base w
section
variable {B : Nat} {base : World} {S : List Nat} {T : List (Rw B)} {tyss : List (List Nat)} {cons : List (Option Nat)} {prs : List (Nat × Nat)} {cut : Nat}
theorem JW.start (hB : B ≤ base.heap.size) (listed : Array Bool) (f : Nat → Value) (h0 : ∀ i, listed.getD i false = false) : JW B base S T tyss cons prs cut listed f base.drew :=
 ⟨hB, Ex.kt (show Ex base base.drew from (Below.refl base.heap.size base).drew) hB, fun i hi => absurd hi (by rw [h0 i]; decide), fun x _ hx => absurd hx (by rw [h0 x.1]; decide), fun _ => (Below.refl base.heap.size base).drew⟩
theorem set_new {listed : Array Bool} {i : Nat} (hi : i < listed.size) : (listed.setIfInBounds i true).getD i false = true := by
 rw [Array.getD_eq_getD_getElem?, Array.getElem?_setIfInBounds_self_of_lt hi]; rfl
theorem JW.next {listed : Array Bool} {f : Nat → Value} {w w' : World} (h : JW B base S T tyss cons prs cut listed f w)
  (hty : T.map Rw.tys = tyss) {i : Nat} (hi : i < listed.size) {v : Value} (S' : List Nat) (hS : ∀ x ∈ S', x ∈ S) (k : Kt S' B w w') (hv : (T.getD i .any).holds v w')
  (hc : ∀ j, j ≠ i → (∃ t ∈ S', t ∈ tyss.getD j []) → listed.getD j false = true → ∃ c, cons.getD j none = some c ∧ (c = i ∨ listed.getD c false = true))
  (ho : ∀ x ∈ prs, x.1 = i → listed.getD x.2 false = true) (hp : (listed.setIfInBounds i true).getD cut false = false → Ex base w') : JW B base S T tyss cons prs cut (listed.setIfInBounds i true) (upd f i v) w' := by
 have new := set_new hi
 have mono : ∀ c, listed.getD c false = true → (listed.setIfInBounds i true).getD c false = true := fun c hc => by
  by_cases e : i = c
  ·subst e; exact new
  ·rw [gset e false]; exact hc
 refine ⟨Nat.le_trans h.lo k.size, h.ext.trans (k.mono hS), fun j hj hcj => ?_, fun x hx h1 => ?_, hp⟩
 ·by_cases e : j = i
  ·subst e; rw [upd_same]; exact hv
  rw [upd_ne _ _ e]
  have hj' : listed.getD j false = true := by
   rcases listed_set hj with rfl | hj
   ·exact absurd rfl e
   ·exact hj
  have hold := h.vals j hj' (fun c hcc => set_falseR (hcj c hcc))
  refine (T.getD j .any).stab S' _ _ _ hold k ?_
  have ht : (T.getD j .any).tys = tyss.getD j [] := by
   rw [← hty, List.getD_eq_getElem?_getD, List.getD_eq_getElem?_getD, List.getElem?_map]
   cases T[j]? <;> rfl
  rw [ht]
  intro t htj hin
  obtain ⟨c, hcc, hci⟩ := hc j e ⟨t, hin, htj⟩ hj'
  have := hcj c hcc
  rcases hci with rfl | hci
  ·rw [new] at this; cases this
  rw [mono c hci] at this; cases this
 rcases listed_set h1 with e | h1
 ·exact mono _ (ho x hx e)
 exact mono _ (h.ord x hx h1)
theorem JW.plain {listed : Array Bool} {f : Nat → Value} {w w' : World} (h : JW B base S T tyss cons prs cut listed f w)
  (hty : T.map Rw.tys = tyss) {i : Nat} (hi : i < listed.size) {v : Value} (k : Ex w w') (hv : (T.getD i .any).holds v w')
  (ho : ∀ x ∈ prs, x.1 = i → listed.getD x.2 false = true) : JW B base S T tyss cons prs cut (listed.setIfInBounds i true) (upd f i v) w' :=
 h.next hty hi [] (by simp) (k.kt h.lo) hv (fun j _ ⟨t, ht, _⟩ => by simp at ht) ho (fun hp => Ex.trans (h.pre (set_falseR hp)) k)
theorem JW.iw {TT : List (Rw B)} {listed : Array Bool} {f : Nat → Value} {w : World} (h : JW B base S T tyss cons prs cut listed f w) (hT : T = TT) {j : Nat} {ops : Array Oper} {tm : Array Value} (hd : listed.getD j false = true ∧ ∀ oj, ops[j]? = some oj → ∀ t, oj.dst = some t → tm.getD t undef = f j) {V : Value} (hV : TT.getD j .any = .is V) (hc : cons.getD j none = none) (oj : Oper) (ho : ops[j]? = some oj) (t : Tmp) (ht : oj.dst = some t) : tm.getD t undef = V := by
 have h1 := h.vals j hd.1 (fun c h9 => by rw [hc] at h9; cases h9)
 rw [hT, hV] at h1
 rw [hd.2 oj ho t ht]; exact h1
theorem JW.iv {TT : List (Rw B)} {listed : Array Bool} {f : Nat → Value} {w : World} (h : JW B base S T tyss cons prs cut listed f w) (hT : T = TT) {j : Nat} {ops : Array Oper} {tm : Array Value} (hd : listed.getD j false = true ∧ ∀ oj, ops[j]? = some oj → ∀ t, oj.dst = some t → tm.getD t undef = f j) {V : Value} (hV : TT.getD j .any = .is V) (hc : cons.getD j none = none) (oj : Oper) (ho : ops[j]? = some oj) (t : Tmp) (ht : oj.dst = some t) : tm[t]?.getD undef = V := by
 rw [← Array.getD_eq_getD_getElem?]; exact h.iw hT hd hV hc oj ho t ht
theorem JW.pl {TT : List (Rw B)} {listed : Array Bool} {f : Nat → Value} {w : World} {N : Nat} (h : JW B base S T tyss cons prs cut listed f w) (hty : T.map Rw.tys = tyss) (hls : listed.size = N) (hT : T = TT) {i : Nat} {v : Value} (hv : (TT.getD i .any).holds v w) (hi : decide (i < N) = true := by rfl) (ho : (prs.all fun x => x.1 != i) = true := by decide) : JW B base S T tyss cons prs cut (listed.setIfInBounds i true) (upd f i v) w :=
 h.plain hty (by rw [hls]; exact of_decide_eq_true hi) (Ex.refl _) (by rw [hT]; exact hv) (fun x hx e => by have := List.all_eq_true.1 ho x hx; simp [e] at this)
theorem JW.pa {TT : List (Rw B)} {listed : Array Bool} {f : Nat → Value} {w : World} {N : Nat} (h : JW B base S T tyss cons prs cut listed f w) (hty : T.map Rw.tys = tyss) (hls : listed.size = N) (hT : T = TT) {i : Nat} {v : Value} (hi : decide (i < N) = true := by rfl) (ho : (prs.all fun x => x.1 != i) = true := by decide) (hv : (TT.getD i .any).holds v w := by first | rfl | exact congrArg (Value.int .i64) (by omega) | exact congrArg (Value.int .i64) (by rw [IntKind.wrap_i64]; omega)) : JW B base S T tyss cons prs cut (listed.setIfInBounds i true) (upd f i v) w :=
 h.pl hty hls hT hv hi ho
end
theorem no_head {prs : List (Nat × Nat)} {i : Nat} {listed : Array Bool} (h : (prs.all fun x => x.1 != i) = true) : ∀ x ∈ prs, x.1 = i → listed.getD x.2 false = true := fun x hx e => by
 have := List.all_eq_true.1 h x hx
 rw [e] at this
 simp at this
theorem nh {prs : List (Nat × Nat)} {i : Nat} {listed : Array Bool} (h : (prs.all fun x => x.1 != i) = true := by decide) : ∀ x ∈ prs, x.1 = i → listed.getD x.2 false = true := no_head h
theorem unq {prs : List (Nat × Nat)} {l : Array Bool} (h : ∀ x ∈ prs, l.getD x.1 false = true → l.getD x.2 false = true) (a b : Nat) (hb : l.getD b false = false) (hm : (a, b) ∈ prs := by simp) : l.getD a false = false := by
 cases hc : l.getD a false with
 | false => rfl
 | true =>
  have h2 : l.getD b false = true := h (a, b) hm hc
  rw [hb] at h2; cases h2
end Go.Proofs.Ytopamplmpfndlaa
namespace Go.Proofs.Ytopamplmpfndlaa
open Go.RowKit
def idn : List UInt8 → Nat
 | [a, b, c, d] => a.toNat * 16777216 + b.toNat * 65536 + c.toNat * 256 + d.toNat
 | _ => 0
end Go.Proofs.Ytopamplmpfndlaa
namespace Go.Proofs.Ytopamplmpfndlaa
open Go.RowKit
theorem ld_idb {o : Oper} {a : Act} {w : World} {K : Act → World → Prop} {Q : Exit → Act → World → Prop} (y : Operand) (g : Nat) (x : List UInt8) (hx : x.length = 4) (ho : o.op = .load 26 y) (ha : a.eval y = .pointer (some ⟨g, 0, none⟩)) (h : Bk w g 26 (Lib.byteCells x).toArray) (hk : K (a.put o.dst (digV x)) w) : o.wp Try.prog a w K Q := by
 obtain ⟨dd, hd⟩ : ∃ d, Try.prog.underlying 26 = some d ∧ d.isRow = true := ⟨_, Try.underlying26, rfl⟩
 exact wp_load_mid 26 y ho g 0 ha (Lib.byteCells x) dd h.range hd.1 hd.2 (by rw [Try.sizeId, byteCells_len, hx]) hk
structure Vp.In (ad : Option Addr) (cap : Nat) (l : List Vt) (w : World) : Prop where
 len : l.length ≤ cap
 nil : ad = none → cap = 0
 ok : ∀ (i : Nat) (x : Vt), l[i]? = some x → x.Ok
 read : 0 < l.length → ∃ a o, ad = some ⟨a, o, none⟩ ∧ a < w.heap.size ∧ ∀ (i : Nat) (x : Vt), l[i]? = some x → w.rangeAt a (o + i * 42) x.C
theorem Vp.In.ext {ad : Option Addr} {cap : Nat} {l : List Vt} {w w' : World} (h : Vp.In ad cap l w) (k : Ex w w') : Vp.In ad cap l w' :=
 ⟨h.len, h.nil, h.ok, fun h0 => by
  obtain ⟨a, o, e, hB, hc⟩ := h.read h0
  exact ⟨a, o, e, Nat.lt_of_lt_of_le hB (Below.size k), fun i x hx j v hv => (Below.cell (p := ⟨a, o + i * 42 + j, none⟩) k hB).trans (hc i x hx j v hv)⟩⟩
end Go.Proofs.Ytopamplmpfndlaa
namespace Go.Proofs.Ytopamplmpfndlaa
open Go.RowKit
section
variable {P : Program} {ops : Array Oper} {rest : List Oper} {d : Option Tmp} {t2 : TypeId} {pos : String} {af : Array Edge} {g : Option (Nat × Bool)} {a : Act} {w : World} {Q : Exit → Act → World → Prop}
end
theorem vflat_len : ∀ (l : List Vt) (_ : ∀ (i : Nat) (x : Vt), l[i]? = some x → x.Ok), (l.flatMap Vt.C).length = l.length * 42
 | [], _ => rfl
 | x :: r, H => by rw [List.flatMap_cons, List.length_append, vflat_len r (fun k z hz => H (k + 1) z (by simpa using hz)), Vt.len (H 0 x rfl), List.length_cons]; omega
theorem vflat_at : ∀ (l : List Vt) (_ : ∀ (i : Nat) (x : Vt), l[i]? = some x → x.Ok) (i j : Nat) (x : Vt), l[i]? = some x → j < 42 → (l.flatMap Vt.C)[i * 42 + j]? = x.C[j]?
 | [], _, _, _, _, h, _ => by simp at h
 | y :: r, H, 0, j, x, h, hj => by
  obtain rfl : y = x := by simpa using h
  rw [List.flatMap_cons, List.getElem?_append_left (by rw [Vt.len (H 0 y rfl)]; omega)]
  congr 1; omega
 | y :: r, H, i + 1, j, x, h, hj => by
  have hy := Vt.len (H 0 y rfl)
  rw [List.flatMap_cons, List.getElem?_append_right (by omega), hy, show (i + 1) * 42 + j - 42 = i * 42 + j by omega]
  exact vflat_at r (fun k z hz => H (k + 1) z (by simpa using hz)) i j x (by simpa using h) hj
theorem Vt.C_one (x : Vt) : ∀ u ∈ x.C, u.oneCell' = true := by
 have := x.ones
 rw [List.all_toArray] at this
 exact List.all_eq_true.1 this
structure TVN (w : World) (x : Vt) : Prop where
 ok : x.Ok
 sec : PN w 0 x.sec
 len : x.sec.l.length ≤ 64
theorem TVN.ext {w w' : World} {x : Vt} (h : TVN w x) (k : Ex w w') : TVN w' x := ⟨h.ok, h.sec.ext k, h.len⟩
theorem PN.kt {S : List Nat} {B B' : Nat} {w w' : World} {p : Pt} (h : PN w B' p) (k : Kt S B w w') (hs : 5 ∉ S) : PN w' B' p := by
 refine ⟨⟨h.1.cap, h.1.nil, fun h0 => ?_⟩, fun a e => ⟨(h.2 a e).1, (h.2 a e).2.elim fun cs hc => ⟨cs, k.bk hc hs⟩⟩⟩
 obtain ⟨a, o, e, hB, hc⟩ := h.1.read h0
 obtain ⟨_, cs, hb⟩ := h.2 _ e
 refine ⟨a, o, e, Nat.lt_of_lt_of_le hB k.size, fun i hi => ?_⟩
 rw [← hc i hi]
 have h2 := k.bk hb hs
 unfold Bk at hb h2
 simp only [World.cell?, h2, hb]
theorem TVN.kt {S : List Nat} {B : Nat} {w w' : World} {x : Vt} (h : TVN w x) (k : Kt S B w w') (hs : 5 ∉ S) : TVN w' x := ⟨h.ok, h.sec.kt k hs, h.len⟩
theorem TVN.vi {w : World} {x : Vt} (h : TVN w x) : VI w x := ⟨h.ok, h.sec.1⟩
structure VRow (w : World) (B : Nat) (v : Value) (xs : List Vt) : Prop where
 row : w.ownsRow B 78 42 v xs.length (xs.flatMap Vt.C)
 ins : ∀ (i : Nat) (x : Vt), xs[i]? = some x → TVN w x
theorem VRow.nil (w : World) (B : Nat) : VRow w B (.slice none 0 0) [] := ⟨World.ownsRow_nil _ _ _ _, fun i x hx => by simp at hx⟩
theorem VRow.ext {w w' : World} {B : Nat} {v : Value} {xs : List Vt} (h : VRow w B v xs) (k : Ex w w') : VRow w' B v xs := ⟨k.row h.row, fun i x hx => (h.ins i x hx).ext k⟩
theorem VRow.less {w : World} {B B' : Nat} {v : Value} {xs : List Vt} (h : VRow w B v xs) (k : B' ≤ B) : VRow w B' v xs := ⟨rown_less h.row k, h.ins⟩
theorem VRow.inn {w : World} {B : Nat} {v : Value} {xs : List Vt} (h : VRow w B v xs) : ∃ ad cap, v = .slice ad xs.length cap ∧ Vp.In ad cap xs w := by
 have hok : ∀ (i : Nat) (x : Vt), xs[i]? = some x → x.Ok := fun i x hx => (h.ins i x hx).ok
 obtain ⟨⟨h1, ⟨hv, h0⟩ | ⟨g, cap, cur, rfl, hb, hh, hc, hm, hs, ht⟩⟩, hin⟩ := h
 ·exact ⟨none, 0, by rw [h0]; exact hv, ⟨by rw [h0]; exact Nat.le_refl 0, fun _ => rfl, hok, fun h => by omega⟩⟩
 refine ⟨some ⟨g, 0, none⟩, cap, rfl, ⟨hc, (fun h => by cases h), hok, fun _ => ⟨g, 0, rfl, (show Bk w g 78 cur from hh).lt, fun i x hx j u hu => ?_⟩⟩⟩
 have hil : i < xs.length := (List.getElem?_eq_some_iff.1 hx).1
 have hj : j < 42 := by have := (List.getElem?_eq_some_iff.1 hu).1; rw [Vt.len (hok i x hx)] at this; exact this
 have h3 := vflat_at xs hok i j x hx hj
 rw [← ht, hu, List.getElem?_take, if_pos (by omega)] at h3
 rw [(show Bk w g 78 cur from hh).cell, Nat.zero_add, ← Array.getElem?_toList]
 exact h3
theorem VRow.app {w w2 : World} {B : Nat} {v v' : Value} {xs : List Vt} {z : Vt} (h : VRow w B v xs) (k : Kt [78] B w w2) (hr : w2.ownsRow B 78 42 v' (xs.length + 1) (xs.flatMap Vt.C ++ z.C)) (hz : TVN w z) : VRow w2 B v' (xs ++ [z]) :=
 ⟨by rw [List.length_append, List.flatMap_append]; simpa using hr, fun i x hx => by
  rcases List.mem_append.1 (List.mem_of_getElem? hx) with h1 | h1
  ·obtain ⟨j, hj, e⟩ := List.getElem_of_mem h1
   exact (h.ins j x (by rw [List.getElem?_eq_getElem hj, e])).kt k (by decide)
  ·rw [List.mem_singleton.1 h1]; exact hz.kt k (by decide)⟩
def idF (vs : List Vt) (i : Nat) : Nat := idn (vs.getD i zeroVt).id
structure TB (w : World) (T : Nat) (rv : Value) (vs : List Vt) : Prop where
 blk : Bk w T 174 #[rv]
 row : VRow w (T + 1) rv vs
 len : vs.length ≤ 4
 srt : ∀ i j, i < j → j < vs.length → idF vs i < idF vs j
theorem TB.ext {w w' : World} {T : Nat} {rv : Value} {vs : List Vt} (h : TB w T rv vs) (k : Ex w w') : TB w' T rv vs := ⟨h.blk.ext k, h.row.ext k, h.len, h.srt⟩
theorem TB.mono {w : World} {T : Nat} {rv : Value} {vs : List Vt} (h : TB w T rv vs) : ∀ i j, i ≤ j → j < vs.length → idF vs i ≤ idF vs j := fun i j hij hj => by
 rcases Nat.eq_or_lt_of_le hij with e | e
 ·rw [e]; exact Nat.le_refl _
 ·exact Nat.le_of_lt (h.srt i j e hj)
def BI (n : Nat) (F : Nat → Nat) (X p : Nat) : Prop := p ≤ n ∧ (∀ q, q < p → F q < X) ∧ (∀ q, p ≤ q → q < n → X ≤ F q)
def BQ (n : Nat) (F : Nat → Nat) (X p : Nat) (b : Bool) : Prop := BI n F X p ∧ b = decide (∃ q, q < n ∧ F q = X)
end Go.Proofs.Ytopamplmpfndlaa
namespace Go.Proofs.Ytopamplmpfndlaa
open Go.RowKit
def RowPost (c : List Vc) (w : World) (e : Ending) (w' : World) : Prop := ∃ (v : Value) (ys : List Vt), e = .returned v ∧ VRow w' w.heap.size v ys ∧ ys.map Vt.ct = c ∧ Ex w w'
end Go.Proofs.Ytopamplmpfndlaa
namespace Go.Proofs.Ytopamplmpfndlaa
open Go.RowKit
def Rising (xs : List Vt) : Prop := xs.length ≤ 4 ∧ (∀ (i : Nat) (x : Vt), xs[i]? = some x → x.ct.right = true) ∧ ∀ i, i + 1 < xs.length → idF xs i < idF xs (i + 1)
theorem Rising.srt {xs : List Vt} (h : Rising xs) : ∀ i j, i < j → j < xs.length → idF xs i < idF xs j := by
 intro i j hij
 induction j with
 | zero => omega
 | succ j ih =>
  intro hj
  have h1 := h.2.2 j hj
  rcases Nat.eq_or_lt_of_le (Nat.le_of_lt_succ hij) with e | e
  ·rw [e]; exact h1
  ·exact Nat.lt_trans (ih e (by omega)) h1
end Go.Proofs.Ytopamplmpfndlaa
namespace Go.Proofs.Ytopamplmpfndlaa
open Go.RowKit
def Lies (w : World) (v v' : Value) : Prop := v'.ownBlock = v.ownBlock ∨ ∀ g, v'.ownBlock = some g → w.heap.size ≤ g
theorem append_where (w : World) (t ty e : TypeId) (i : TypeInfo) (z : Value) (size bytes : Nat) (ht : Try.prog.underlying t = some (.slice e)) (hi : Try.prog.info? e = some i) (hz : i.zero = some z)
  (hsize : i.size = size) (hby : i.bytes = bytes) (B n : Nat) (v : Value) (xs : List Value) (hown : w.ownsRow B e size v n xs)
  (a : Addr) (m c : Nat) (news : List Value) (hl : news.length = m * size) (hnews : ∀ j u, news[j]? = some u → w.cell? (a.add j) = some u) (h1 : ∀ u ∈ news, u.oneCell' = true)
  (hm : 0 < m) (h63 : n + m ≤ maxLen) (hbytes : (n + m) * bytes ≤ 140737488355328) {v' : Value} {w' : World} (hr : (Builtin.append_ #[t, t] ty #[v, .slice (some a) m c]).run Try.prog w = .ok v' w') : Lies w v v' := by
 subst hsize
 subst hby
 have hsmall : n + m ≤ 9223372036854775807 := by simp only [maxLen] at h63; omega
 rcases hown.2 with ⟨rfl, rfl⟩ | ⟨g, cap, cur, rfl, hbg, hg, hnc, hcm, hcs, htake⟩
 ·have h2 := run_append_nil (P := Try.prog) w t ty e i z ht hi hz a m c news hl hnews hm (by omega) (by have hb := hbytes; simp only [Nat.zero_add] at hb; omega)
  rw [h2] at hr
  cases hr
  exact Or.inr fun g hg => by cases hg; exact Nat.le_refl _
 by_cases hroom : n + m ≤ cap
 ·have hfit : n * i.size + news.length ≤ cur.size := by rw [hl, hcs, ← Nat.add_mul]; exact Nat.mul_le_mul_right _ hroom
  have h2 := run_append_room (P := Try.prog) w t ty e i ht hi g n cap cur hg a m c news hl hnews h1 hroom hfit
  rw [h2] at hr
  cases hr
  exact Or.inl rfl
 have holds : ∀ j u, xs[j]? = some u → w.cell? ((⟨g, 0, none⟩ : Addr).add j) = some u := hown.cells (g := g) rfl
 have h2 := run_append_grow (P := Try.prog) w t ty e i z ht hi hz ⟨g, 0, none⟩ n cap xs hown.1 holds a m c news hl hnews (by omega) (by omega) (growslice_fits (by omega) hbytes)
 rw [h2] at hr
 cases hr
 exact Or.inr fun g hg => by cases hg; exact Nat.le_refl _
theorem wp_rtell {o : Oper} {a : Act} {w : World} {K : Act → World → Prop} {Q : Exit → Act → World → Prop} (s x : Operand) (t e : TypeId) (z : Value) (sz bytes : Nat)
  (hop : o.op = .call { callee := .builtin .append, args := #[s, x], argTypes := #[t, t] }) (hu : Try.prog.underlying t = some (.slice e))
  (hinfo : (Try.prog.info? e).map (fun i => (i.zero, i.size, i.bytes)) = some (some z, sz, bytes)) (hz : z.cells.size = sz) (hp : 0 < sz)
  (B n : Nat) (v : Value) (xs : List Value) (hs : a.eval s = v) (hown : w.ownsRow B e sz v n xs) (hB : B ≤ w.heap.size)
  (A : Addr) (m c : Nat) (ys : List Value) (hx : a.eval x = .slice (some A) m c) (hl : ys.length = m * sz) (hr : ∀ j u, ys[j]? = some u → w.cell? (A.add j) = some u) (h1 : ∀ u ∈ ys, u.oneCell' = true) (hm : 0 < m)
  (hN : n + m ≤ 9223372036854775807) (hby : (n + m) * bytes ≤ 140737488355328)
  (h : ∀ v' w', w'.ownsRow B e sz v' (n + m) (xs ++ ys) → w.grownBy w' v.ownBlock → Lies w v v' → K (a.put o.dst v') w') : o.wp Try.prog a w K Q := by
 obtain ⟨i0, hi0, hz0, hz1, hz2⟩ := info_parts hinfo
 obtain ⟨v', w', hrun, r1, r2, _⟩ := run_append_own (P := Try.prog) w B t o.type e i0 z sz bytes hu hi0 hz0 hz1 hz2 hz hp v n xs hown A m c ys hl hr h1 hN hby hB
 have r3 := append_where w t o.type e i0 z sz bytes hu hi0 hz0 hz1 hz2 B n v xs hown A m c ys hl hr h1 hm hN hby hrun
 unfold Oper.wp
 simp [execOp, hop, resolve, invoke, builtin, hs, hx, hrun, Result.andThen]
 exact h v' w' r1 r2 r3
theorem run_copy_bk (w : World) (dT sT ty elem : TypeId) (g o dLen dCap : Nat) (A : Addr) (sLen sCap sz : Nat) (C : List Value) (t : TypeId) (cs : List Value)
  (hu : Try.prog.underlying dT = some (.slice elem)) (hs : (Try.prog.info? elem).map (·.size) = some sz) (hg : Bk w g t C.toArray) (hn : cs.length = Nat.min sLen dLen * sz)
  (hsrc : ∀ j v, cs[j]? = some v → w.cell? (A.add j) = some v) (hfit : o + cs.length ≤ C.length) (h1 : ∀ v ∈ cs, v.oneCell' = true) :
  (Builtin.copy_ #[dT, sT] ty #[.slice (some ⟨g, o, none⟩) dLen dCap, .slice (some A) sLen sCap]).run Try.prog w = .ok (goInt (Nat.min sLen dLen)) (w.setRow g (C.take o ++ cs ++ C.drop (o + cs.length)).toArray) := by
 have hl := run_loadCells_list (P := Try.prog) w A cs hsrc
 have hst := run_storeCells_at Try.prog g o t cs 0 C.toArray w hg (by simpa using hfit) h1
 simp only [Nat.add_zero] at hst
 cases hq : Try.prog.info? elem with
 | none => simp [hq] at hs
 | some i =>
  have hi : i.size = sz := by simpa [hq] using hs
  simp [Builtin.copy_, run_underlying hu, Builtin.lenOf, Builtin.firstCells, sizeOf, typeInfo, hq, hi, ← hn, hl, hst]
theorem Only.setRow (w : World) (g : Nat) (cs : Array Value) : Only g w (w.setRow g cs) := by
 refine ⟨fun B hB a ha => ⟨ha.os, ha.tape, ha.output, by rw [show (w.setRow g cs).heap.size = w.heap.size by simp [World.setRow]]; exact ha.size, fun k hk => (setRow_other w g k cs (by omega)).trans (ha.block k hk)⟩, fun h hne => setRow_other w g h cs hne, by simp [World.setRow]⟩
theorem wp_copy_bk {o : Oper} {a : Act} {w : World} {K : Act → World → Prop} {Q : Exit → Act → World → Prop} (d s : Operand) (dT sT elem : TypeId) (g off dLen dCap : Nat) (A : Addr) (sLen sCap sz : Nat) (C : List Value) (t : TypeId) (cs : List Value)
  (ho : o.op = .call { callee := .builtin .copy, args := #[d, s], argTypes := #[dT, sT] }) (hd : a.eval d = .slice (some ⟨g, off, none⟩) dLen dCap) (hs' : a.eval s = .slice (some A) sLen sCap)
  (hu : Try.prog.underlying dT = some (.slice elem)) (hs : (Try.prog.info? elem).map (·.size) = some sz) (hg : Bk w g t C.toArray) (hn : cs.length = Nat.min sLen dLen * sz)
  (hsrc : ∀ j v, cs[j]? = some v → w.cell? (A.add j) = some v) (hfit : off + cs.length ≤ C.length) (h1 : ∀ v ∈ cs, v.oneCell' = true)
  (h : ∀ w', Bk w' g t (C.take off ++ cs ++ C.drop (off + cs.length)).toArray → Only g w w' → K (a.put o.dst (goInt (Nat.min sLen dLen))) w') : o.wp Try.prog a w K Q := by
 have hr := run_copy_bk w dT sT o.type elem g off dLen dCap A sLen sCap sz C t cs hu hs hg hn hsrc hfit h1
 unfold Oper.wp execOp
 simp only [ho, resolve, invoke, builtin, Sem.run_bind, Sem.run_pure, Result.andThen_ok, List.map_toArray, List.map_cons, List.map_nil, hd, hs', hr]
 exact h _ (setRow_heap w g C.toArray _ t _ hg) (Only.setRow w g _)
theorem Ex.grownBy {w w1 : World} (r : Option Nat) (k : Ex w w1) : w.grownBy w1 r := ⟨k.os, k.tape, k.output, Below.size k, fun j hj _ => k.block j hj⟩
end Go.Proofs.Ytopamplmpfndlaa
namespace Go.Proofs.Ytopamplmpfndlaa
open Go.RowKit
theorem append_where0 (w : World) (t ty e : TypeId) (i : TypeInfo) (z : Value) (size bytes : Nat) (ht : Try.prog.underlying t = some (.slice e)) (hi : Try.prog.info? e = some i) (hz : i.zero = some z)
    (hsize : i.size = size) (hby : i.bytes = bytes) (B n : Nat) (v : Value) (xs : List Value) (hown : w.ownsRow B e size v n xs)
    (a : Addr) (m c : Nat) (news : List Value) (hl : news.length = m * size) (hnews : ∀ j u, news[j]? = some u → w.cell? (a.add j) = some u) (h1 : ∀ u ∈ news, u.oneCell' = true)
    (h63 : n + m ≤ maxLen) (hbytes : (n + m) * bytes ≤ 140737488355328) {v' : Value} {w' : World} (hr : (Builtin.append_ #[t, t] ty #[v, .slice (some a) m c]).run Try.prog w = .ok v' w') : Lies w v v' := by
  by_cases hm : 0 < m
  · exact append_where w t ty e i z size bytes ht hi hz hsize hby B n v xs hown a m c news hl hnews h1 hm h63 hbytes hr
  obtain rfl : m = 0 := by omega
  subst hsize
  obtain rfl : news = [] := List.eq_nil_of_length_eq_zero (by simpa using hl)
  rcases hown.2 with ⟨rfl, rfl⟩ | ⟨g, cap, cur, rfl, hbg, hg, hnc, hcm, hcs, htake⟩
  · have h2 : (Builtin.append_ #[t, t] ty #[.slice none 0 0, .slice (some a) 0 c]).run Try.prog w = .ok (.slice none 0 0) w := by
      simp [Builtin.append_, run_underlying ht, sizeOf, typeInfo, hi, Builtin.lenOf, Builtin.firstCells, loadCells, loadCellsFrom]
    rw [h2] at hr
    cases hr
    exact Or.inl rfl
  have h2 := run_append_room (P := Try.prog) w t ty e i ht hi g n cap cur hg a 0 c [] (by simp) (by simp) (by simp) (by simpa using hnc) (by rw [hcs]; simpa using Nat.mul_le_mul_right _ hnc)
  rw [h2] at hr
  cases hr
  exact Or.inl rfl
theorem wp_cat {o : Oper} {a : Act} {w : World} {K : Act → World → Prop} {Q : Exit → Act → World → Prop} (s x : Operand)
    (hop : o.op = .call { callee := .builtin .append, args := #[s, x], argTypes := #[23, 23] }) (B : Nat) (v : Value) (l : List UInt8) (hs : a.eval s = v) (hown : ownU w B v l) (hB : B ≤ w.heap.size)
    (p : Pt) (hx : a.eval x = p.V) (hp : p.In w w.heap.size) (hN : l.length + p.l.length ≤ 140737488355328)
    (h : ∀ v' w', ownU w' B v' (l ++ p.l) → w.grownBy w' v.ownBlock → Lies w v v' → K (a.put o.dst v') w') : o.wp Try.prog a w K Q := by
  obtain ⟨i0, hi0, hz0, hz1, hz2⟩ := info_parts sm_u8
  have key : ∃ v' w', (Builtin.append_ #[23, 23] o.type #[v, p.V]).run Try.prog w = .ok v' w' ∧ ownU w' B v' (l ++ p.l) ∧ w.grownBy w' v.ownBlock ∧ Lies w v v' := by
    cases had : p.ad with
    | none =>
      have hl : p.l = [] := by
        rcases Nat.eq_zero_or_pos p.l.length with h0 | h0
        · exact List.eq_nil_of_length_eq_zero h0
        · obtain ⟨_, _, e, _⟩ := hp.read h0; rw [had] at e; cases e
      have hc := hp.nil had
      refine ⟨v, w, ?_, by rw [hl, List.append_nil]; exact hown, World.grownBy.refl w _, Or.inl rfl⟩
      unfold Pt.V
      rw [had, hl, hc]
      exact run_append_owned_none w B 23 o.type 5 i0 1 Try.underlying23 hi0 v l.length _ hown
    | some A =>
      have hr : ∀ j u, (Lib.byteCells p.l)[j]? = some u → w.cell? (A.add j) = some u := fun j u hu => by
        have h0 : 0 < p.l.length := by
          have := (List.getElem?_eq_some_iff.1 hu).1
          rw [byteCells_len] at this; omega
        obtain ⟨ad, e, hc⟩ := hp.cells h0
        rw [had] at e; cases e
        exact hc j u hu
      have h1 : ∀ u ∈ Lib.byteCells p.l, u.oneCell' = true := fun u hu => byteCells_one hu
      obtain ⟨v', w', hrun, r1, r2, _⟩ := run_append_own (P := Try.prog) w B 23 o.type 5 i0 _ 1 1 Try.underlying23 hi0 hz0 hz1 hz2 rfl (by omega) v l.length _ hown A p.l.length p.cap (Lib.byteCells p.l) (by rw [byteCells_len]; omega) hr h1 (by unfold maxLen; omega) (by omega) hB
      have r3 := append_where0 w 23 o.type 5 i0 _ 1 1 Try.underlying23 hi0 hz0 hz1 hz2 B l.length v _ hown A p.l.length p.cap (Lib.byteCells p.l) (by rw [byteCells_len]; omega) hr h1 (by unfold maxLen; omega) (by omega) hrun
      refine ⟨v', w', by unfold Pt.V; rw [had]; exact hrun, ?_, r2, r3⟩
      unfold ownU
      rw [byteCells_app, List.length_append]
      exact r1
  obtain ⟨v', w', hrun, r1, r2, r3⟩ := key
  unfold Oper.wp
  simp [execOp, hop, resolve, invoke, builtin, hs, hx, hrun, Result.andThen]
  exact h v' w' r1 r2 r3
def Fz (w : World) (B : Nat) (v : Value) (l : List UInt8) : Prop := ∃ g, v = .slice (some ⟨g, 0, none⟩) l.length l.length ∧ B ≤ g ∧ w.heap[g]? = some (.cells (Lib.byteCells l).toArray 5 (l.length, l.length + 1))
def RU (w : World) (B : Nat) (v : Value) (r : Bool × List UInt8) : Prop := if r.1 = true then Fz w B v r.2 else ownU w B v r.2
theorem RU.own {w : World} {B : Nat} {v : Value} {l : List UInt8} (h : RU w B v (false, l)) : ownU w B v l := h
theorem RU.of {w : World} {B : Nat} {v : Value} {l : List UInt8} (h : ownU w B v l) : RU w B v (false, l) := h
theorem RU.fz {w : World} {B : Nat} {v : Value} {l : List UInt8} (h : RU w B v (true, l)) : Fz w B v l := h
theorem RU.lt {w : World} {B : Nat} {v : Value} {r : Bool × List UInt8} (h : RU w B v r) {g : Nat} (hg : v.ownBlock = some g) : B ≤ g ∧ g < w.heap.size := by
  obtain ⟨b, l⟩ := r
  cases b with
  | true =>
    obtain ⟨g', rfl, hB, hh⟩ := h.fz
    cases hg
    exact ⟨hB, blk_lt hh⟩
  | false => exact World.ownsRow.lt h.own g hg
theorem RU.keep {w w' : World} {B : Nat} {v : Value} {r : Bool × List UInt8} (h : RU w B v r) (k : ∀ g, v.ownBlock = some g → w'.heap[g]? = w.heap[g]?) : RU w' B v r := by
  obtain ⟨b, l⟩ := r
  cases b with
  | true =>
    obtain ⟨g', rfl, hB, hh⟩ := h.fz
    exact ⟨g', rfl, hB, (k g' rfl).trans hh⟩
  | false => exact ⟨h.own.1, h.own.2.imp id fun ⟨g, cap, cur, a1, a2, a3, a4⟩ => ⟨g, cap, cur, a1, a2, (k g (by rw [a1]; rfl)).trans a3, a4⟩⟩
theorem RU.less {w : World} {B B' : Nat} {v : Value} {r : Bool × List UInt8} (h : RU w B v r) (k : B' ≤ B) : RU w B' v r := by
  obtain ⟨b, l⟩ := r
  cases b with
  | true =>
    obtain ⟨g', h1, hB, hh⟩ := h.fz
    exact ⟨g', h1, Nat.le_trans k hB, hh⟩
  | false => exact ⟨h.own.1, h.own.2.imp id fun ⟨g, cap, cur, a1, a2, a3⟩ => ⟨g, cap, cur, a1, Nat.le_trans k a2, a3⟩⟩
theorem RU.ex {w w' : World} {B : Nat} {v : Value} {r : Bool × List UInt8} (h : RU w B v r) (k : Ex w w') : RU w' B v r := h.keep fun g hg => k.block g (h.lt hg).2
theorem RU.kt {w w' : World} {B : Nat} {v : Value} {r : Bool × List UInt8} (h : RU w B v r) (k : w.grownBy w' v.ownBlock) (hB : B ≤ w.heap.size) : Kt [5] B w w' := by
  obtain ⟨b, l⟩ := r
  cases b with
  | true =>
    obtain ⟨g', rfl, hg, hh⟩ := h.fz
    refine ⟨(Below.refl B w).grown k hB (fun j hj => by cases hj; exact hg), fun i cs t fr hi h1 => (k.block i (blk_lt hi) ?_).trans hi⟩
    intro he
    obtain rfl : i = g' := by simpa [Value.ownBlock] using he
    rw [hh] at hi
    injection hi with hi
    injection hi with _ h2
    exact h1 (by rw [← h2]; exact List.mem_singleton.2 rfl)
  | false => exact Kt.grown h.own k hB
theorem RU.pt {w : World} {B : Nat} {v : Value} {r : Bool × List UInt8} (h : RU w B v r) : ∃ p : Pt, v = p.V ∧ p.l = r.2 ∧ p.In w w.heap.size := by
  obtain ⟨b, l⟩ := r
  cases b with
  | true =>
    obtain ⟨g', rfl, hg, hh⟩ := h.fz
    refine ⟨⟨some ⟨g', 0, none⟩, l.length, l⟩, rfl, rfl, ⟨Nat.le_refl _, (fun h => by cases h), fun _ => ⟨g', 0, rfl, blk_lt hh, fun i hi => ?_⟩⟩⟩
    have hi : i < l.length := hi
    rw [Nat.zero_add]
    simp [World.cell?, hh, Lib.byteCells, List.getD, hi]
  | false =>
    obtain ⟨p, h1, h2, h3, _⟩ := own_pt h.own
    exact ⟨p, h1, h2, h3⟩
structure Bx where
  row : Option (Bool × List UInt8)
  p : Value → Prop
def Bx.is (x : Value) : Bx := ⟨none, fun v => v = x⟩
def Bx.any : Bx := ⟨none, fun _ => True⟩
def Bx.own (l : List UInt8) : Bx := ⟨some (false, l), fun _ => True⟩
def Bx.lit (l : List UInt8) : Bx := ⟨some (false, l), fun v => ∃ g, v = .slice (some ⟨g, 0, none⟩) l.length l.length⟩
theorem lit_back {w : World} {B g : Nat} {l : List UInt8} (h : ownU w B (.slice (some ⟨g, 0, none⟩) l.length l.length) l) : Bk w g 5 (Lib.byteCells l).toArray := by
  obtain ⟨h1, ⟨hv, _⟩ | ⟨g', cap, cur, hv, hb, hg, hn, hm, hs, ht⟩⟩ := h
  · cases hv
  cases hv
  have e : cur = (Lib.byteCells l).toArray := by
    rw [List.take_of_length_le (by rw [Array.length_toList, hs]; exact Nat.le_refl _)] at ht
    rw [← ht]
  rw [← e]; exact hg
def Bx.frz (l : List UInt8) : Bx := ⟨some (true, l), fun _ => True⟩
structure JB (B : Nat) (base : World) (T : List Bx) (cons : List (Option Nat)) (v0 : Value) (l0 : List UInt8) (c0 : Nat) (listed : Array Bool) (f : Nat → Value) (w : World) : Prop where
  lo : B ≤ w.heap.size
  ext : Kt [5] B base w
  vals : ∀ i, listed.getD i false = true → (T.getD i .any).p (f i)
  rows : ∀ i l, listed.getD i false = true → (T.getD i .any).row = some l → (∀ c, cons.getD i none = some c → listed.getD c false = false) → RU w B (f i) l
  apart : ∀ i j, i ≠ j → listed.getD i false = true → listed.getD j false = true → (T.getD i .any).row.isSome = true → (T.getD j .any).row.isSome = true → (∀ c, cons.getD i none = some c → listed.getD c false = false) → (∀ c, cons.getD j none = some c → listed.getD c false = false) → ∀ g, (f i).ownBlock = some g → (f j).ownBlock ≠ some g
  row0 : listed.getD c0 false = false → RU w B v0 (false, l0)
  apart0 : listed.getD c0 false = false → ∀ i, listed.getD i false = true → (T.getD i .any).row.isSome = true → (∀ c, cons.getD i none = some c → listed.getD c false = false) → ∀ g, (f i).ownBlock = some g → v0.ownBlock ≠ some g
section
variable {B : Nat} {base : World} {T : List Bx} {cons : List (Option Nat)} {v0 : Value} {l0 : List UInt8} {c0 : Nat}
theorem JB.start (hB : B ≤ base.heap.size) (hr0 : RU base B v0 (false, l0)) (listed : Array Bool) (f : Nat → Value) (h0 : ∀ i, listed.getD i false = false) : JB B base T cons v0 l0 c0 listed f base.drew :=
  ⟨hB, Ex.kt (show Ex base base.drew from (Below.refl base.heap.size base).drew) hB, fun i hi => absurd hi (by rw [h0 i]; decide), fun i _ hi => absurd hi (by rw [h0 i]; decide), fun i _ _ hi => absurd hi (by rw [h0 i]; decide), fun _ => hr0.ex (show Ex base base.drew from (Below.refl base.heap.size base).drew), fun _ i hi => absurd hi (by rw [h0 i]; decide)⟩
theorem old_of {listed : Array Bool} {i j : Nat} (e : j ≠ i) (hj : (listed.setIfInBounds i true).getD j false = true) : listed.getD j false = true := by
  rcases listed_set hj with rfl | hj
  · exact absurd rfl e
  exact hj
theorem JB.plain {listed : Array Bool} {f : Nat → Value} {w w' : World} (h : JB B base T cons v0 l0 c0 listed f w) {i : Nat} (_hi : i < listed.size) {v : Value} (hr : (T.getD i .any).row = none) (k : Ex w w') (hv : (T.getD i .any).p v) : JB B base T cons v0 l0 c0 (listed.setIfInBounds i true) (upd f i v) w' := by
  have ne : ∀ {j : Nat} {l : Bool × List UInt8}, (T.getD j .any).row = some l → j ≠ i := fun h1 e => by rw [e, hr] at h1; cases h1
  have ne2 : ∀ {j : Nat}, (T.getD j .any).row.isSome = true → j ≠ i := fun h1 e => by rw [e, hr] at h1; cases h1
  refine ⟨Nat.le_trans h.lo k.size, h.ext.trans (k.kt h.lo), fun j hj => ?_, fun j l hj hrow hc => ?_, fun j m hjm hj hm rj rm cj cm => ?_, fun hc0 => (h.row0 (set_falseR hc0)).ex k, fun hc0 j hj rj cj => ?_⟩
  · by_cases e : j = i
    · subst e; rw [upd_same]; exact hv
    · rw [upd_ne _ _ e]; exact h.vals j (old_of e hj)
  · have e := ne hrow
    rw [upd_ne _ _ e]
    exact (h.rows j l (old_of e hj) hrow (fun c hcc => set_falseR (hc c hcc))).ex k
  · have e := ne2 rj
    have e2 := ne2 rm
    rw [upd_ne _ _ e, upd_ne _ _ e2]
    exact h.apart j m hjm (old_of e hj) (old_of e2 hm) rj rm (fun c hcc => set_falseR (cj c hcc)) (fun c hcc => set_falseR (cm c hcc))
  · have e := ne2 rj
    rw [upd_ne _ _ e]
    exact h.apart0 (set_falseR hc0) j (old_of e hj) rj (fun c hcc => set_falseR (cj c hcc))
theorem JB.pn {TT : List Bx} {listed : Array Bool} {f : Nat → Value} {w : World} {N : Nat} (h : JB B base T cons v0 l0 c0 listed f w) (hls : listed.size = N) (hT : T = TT) {i : Nat} {v : Value} (hi : decide (i < N) = true := by rfl) (hr : (TT.getD i .any).row = none := by rfl) (hv : (TT.getD i .any).p v := by first | rfl | exact congrArg (Value.int .i64) (by omega) | exact congrArg (Value.int .i64) (by rw [IntKind.wrap_i64]; omega)) : JB B base T cons v0 l0 c0 (listed.setIfInBounds i true) (upd f i v) w :=
 h.plain (by rw [hls]; exact of_decide_eq_true hi) (by rw [hT]; exact hr) (Ex.refl _) (by rw [hT]; exact hv)
theorem JB.fresh {listed : Array Bool} {f : Nat → Value} {w w' : World} (h : JB B base T cons v0 l0 c0 listed f w) {i : Nat} (_hi : i < listed.size) {v : Value} {l : Bool × List UInt8} (hr : (T.getD i .any).row = some l) (k : Ex w w') (hp : (T.getD i .any).p v) (hv : RU w' w.heap.size v l) : JB B base T cons v0 l0 c0 (listed.setIfInBounds i true) (upd f i v) w' := by
  have far : ∀ j l', j ≠ i → listed.getD j false = true → (T.getD j .any).row = some l' → (∀ c, cons.getD j none = some c → listed.getD c false = false) → ∀ g, (f j).ownBlock = some g → v.ownBlock ≠ some g := fun j l' _ hj hrow hc g hg hv' => by
    have h1 := ((h.rows j l' hj hrow hc).lt hg).2
    have h2 := (hv.lt hv').1
    omega
  refine ⟨Nat.le_trans h.lo k.size, h.ext.trans (k.kt h.lo), fun j hj => ?_, fun j l' hj hrow hc => ?_, fun j m hjm hj hm rj rm cj cm => ?_, fun hc0 => (h.row0 (set_falseR hc0)).ex k, fun hc0 j hj rj cj => ?_⟩
  · by_cases e : j = i
    · subst e; rw [upd_same]; exact hp
    rw [upd_ne _ _ e]; exact h.vals j (old_of e hj)
  · by_cases e : j = i
    · subst e
      rw [upd_same]
      rw [hr] at hrow
      cases hrow
      exact hv.less h.lo
    rw [upd_ne _ _ e]
    exact (h.rows j l' (old_of e hj) hrow (fun c hcc => set_falseR (hc c hcc))).ex k
  · obtain ⟨lj, rj'⟩ := Option.isSome_iff_exists.1 rj
    obtain ⟨lm, rm'⟩ := Option.isSome_iff_exists.1 rm
    by_cases e : j = i
    · have e2 : m ≠ i := fun e2 => hjm (e.trans e2.symm)
      rw [e, upd_same, upd_ne _ _ e2]
      exact fun g hg hv' => far m lm e2 (old_of e2 hm) rm' (fun c hcc => set_falseR (cm c hcc)) g hv' hg
    by_cases e2 : m = i
    · rw [e2, upd_same, upd_ne _ _ e]
      exact far j lj e (old_of e hj) rj' (fun c hcc => set_falseR (cj c hcc))
    rw [upd_ne _ _ e, upd_ne _ _ e2]
    exact h.apart j m hjm (old_of e hj) (old_of e2 hm) rj rm (fun c hcc => set_falseR (cj c hcc)) (fun c hcc => set_falseR (cm c hcc))
  by_cases e : j = i
  · rw [e, upd_same]
    intro g hg hv0
    have h1 := ((h.row0 (set_falseR hc0)).lt hv0).2
    have h2 := (hv.lt hg).1
    omega
  rw [upd_ne _ _ e]
  exact h.apart0 (set_falseR hc0) j (old_of e hj) rj (fun c hcc => set_falseR (cj c hcc))
theorem JB.app {listed : Array Bool} {f : Nat → Value} {w w' : World} (h : JB B base T cons v0 l0 c0 listed f w) {i j : Nat} (hi : i < listed.size) (hun : listed.getD i false = false) (hj : listed.getD j false = true) (hc : cons.getD j none = some i) {lj : Bool × List UInt8} (hr0 : (T.getD j .any).row = some lj) {v : Value} {l : Bool × List UInt8} (hr : (T.getD i .any).row = some l) (hp : (T.getD i .any).p v)
    (hg : w.grownBy w' (f j).ownBlock) (hl : Lies w (f j) v) (hv : RU w' B v l) : JB B base T cons v0 l0 c0 (listed.setIfInBounds i true) (upd f i v) w' := by
  have hjr := h.rows j lj hj hr0 (fun c hcc => by rw [hc] at hcc; cases hcc; exact hun)
  have kt : Kt [5] B w w' := hjr.kt hg h.lo
  have new := set_new hi
  have nej : ∀ {m : Nat}, (∀ c, cons.getD m none = some c → (listed.setIfInBounds i true).getD c false = false) → m ≠ j := fun hcm e => by
    subst e
    have := hcm i hc
    rw [new] at this; cases this
  have keep : ∀ m lm, m ≠ i → m ≠ j → listed.getD m false = true → (T.getD m .any).row = some lm → (∀ c, cons.getD m none = some c → listed.getD c false = false) → RU w' B (f m) lm := fun m lm _ e2 hm hrow hcm => by
    have h1 := h.rows m lm hm hrow hcm
    have hap := h.apart m j e2 hm hj (by rw [hrow]; rfl) (by rw [hr0]; rfl) hcm (fun c hcc => by rw [hc] at hcc; cases hcc; exact hun)
    exact h1.keep fun g hgm => hg.block g (h1.lt hgm).2 (fun e => hap g hgm e.symm)
  have farv : ∀ m lm, m ≠ i → m ≠ j → listed.getD m false = true → (T.getD m .any).row = some lm → (∀ c, cons.getD m none = some c → listed.getD c false = false) → ∀ g, (f m).ownBlock = some g → v.ownBlock ≠ some g := fun m lm _ e2 hm hrow hcm g hgm hvg => by
    have h1 := ((h.rows m lm hm hrow hcm).lt hgm).2
    rcases hl with hl | hl
    · rw [hl] at hvg
      exact h.apart m j e2 hm hj (by rw [hrow]; rfl) (by rw [hr0]; rfl) hcm (fun c hcc => by rw [hc] at hcc; cases hcc; exact hun) g hgm hvg
    · have := hl g hvg; omega
  have a0 := fun (hc0 : listed.getD c0 false = false) => h.apart0 hc0 j hj (by rw [hr0]; rfl) (fun c hcc => by rw [hc] at hcc; cases hcc; exact hun)
  refine ⟨Nat.le_trans h.lo hg.size, h.ext.trans kt, fun m hm => ?_, fun m lm hm hrow hcm => ?_, fun m n hmn hm hn rm rn cm cn => ?_, fun hc0 => ?_, fun hc0 m hm rm cm => ?_⟩
  · by_cases e : m = i
    · subst e; rw [upd_same]; exact hp
    rw [upd_ne _ _ e]; exact h.vals m (old_of e hm)
  · by_cases e : m = i
    · subst e
      rw [upd_same]
      rw [hr] at hrow
      cases hrow
      exact hv
    rw [upd_ne _ _ e]
    exact keep m lm e (nej hcm) (old_of e hm) hrow (fun c hcc => set_falseR (hcm c hcc))
  · obtain ⟨lm, rm'⟩ := Option.isSome_iff_exists.1 rm
    obtain ⟨ln, rn'⟩ := Option.isSome_iff_exists.1 rn
    by_cases e : m = i
    · have e2 : n ≠ i := fun e2 => hmn (e.trans e2.symm)
      rw [e, upd_same, upd_ne _ _ e2]
      exact fun g hg hv' => farv n ln e2 (nej cn) (old_of e2 hn) rn' (fun c hcc => set_falseR (cn c hcc)) g hv' hg
    by_cases e2 : n = i
    · rw [e2, upd_same, upd_ne _ _ e]
      exact farv m lm e (nej cm) (old_of e hm) rm' (fun c hcc => set_falseR (cm c hcc))
    rw [upd_ne _ _ e, upd_ne _ _ e2]
    exact h.apart m n hmn (old_of e hm) (old_of e2 hn) rm rn (fun c hcc => set_falseR (cm c hcc)) (fun c hcc => set_falseR (cn c hcc))
  · have h1 := h.row0 (set_falseR hc0)
    exact h1.keep fun g hgm => hg.block g (h1.lt hgm).2 (fun e => a0 (set_falseR hc0) g e.symm hgm)
  obtain ⟨lm, rm'⟩ := Option.isSome_iff_exists.1 rm
  by_cases e : m = i
  · rw [e, upd_same]
    intro g hgv hv0
    rcases hl with hl | hl
    · rw [hl] at hgv
      exact a0 (set_falseR hc0) g hgv hv0
    have h1 := ((h.row0 (set_falseR hc0)).lt hv0).2
    have := hl g hgv; omega
  rw [upd_ne _ _ e]
  exact h.apart0 (set_falseR hc0) m (old_of e hm) rm (fun c hcc => set_falseR (cm c hcc))
theorem JB.app0 {listed : Array Bool} {f : Nat → Value} {w w' : World} (h : JB B base T cons v0 l0 c0 listed f w) (hi : c0 < listed.size) (hun : listed.getD c0 false = false) {v : Value} {l : Bool × List UInt8} (hr : (T.getD c0 .any).row = some l) (hp : (T.getD c0 .any).p v)
    (hg : w.grownBy w' v0.ownBlock) (hl : Lies w v0 v) (hv : RU w' B v l) : JB B base T cons v0 l0 c0 (listed.setIfInBounds c0 true) (upd f c0 v) w' := by
  have hjr := h.row0 hun
  have kt : Kt [5] B w w' := hjr.kt hg h.lo
  have new := set_new hi
  have keep : ∀ m lm, m ≠ c0 → listed.getD m false = true → (T.getD m .any).row = some lm → (∀ c, cons.getD m none = some c → listed.getD c false = false) → RU w' B (f m) lm := fun m lm _ hm hrow hcm => by
    have h1 := h.rows m lm hm hrow hcm
    have hap := h.apart0 hun m hm (by rw [hrow]; rfl) hcm
    exact h1.keep fun g hgm => hg.block g (h1.lt hgm).2 (fun e => hap g hgm e.symm)
  have farv : ∀ m lm, m ≠ c0 → listed.getD m false = true → (T.getD m .any).row = some lm → (∀ c, cons.getD m none = some c → listed.getD c false = false) → ∀ g, (f m).ownBlock = some g → v.ownBlock ≠ some g := fun m lm _ hm hrow hcm g hgm hvg => by
    have h1 := ((h.rows m lm hm hrow hcm).lt hgm).2
    rcases hl with hl | hl
    · rw [hl] at hvg
      exact h.apart0 hun m hm (by rw [hrow]; rfl) hcm g hgm hvg
    · have := hl g hvg; omega
  refine ⟨Nat.le_trans h.lo hg.size, h.ext.trans kt, fun m hm => ?_, fun m lm hm hrow hcm => ?_, fun m n hmn hm hn rm rn cm cn => ?_, fun hc0 => (by rw [new] at hc0; cases hc0), fun hc0 => (by rw [new] at hc0; cases hc0)⟩
  · by_cases e : m = c0
    · subst e; rw [upd_same]; exact hp
    rw [upd_ne _ _ e]; exact h.vals m (old_of e hm)
  · by_cases e : m = c0
    · subst e
      rw [upd_same]
      rw [hr] at hrow
      cases hrow
      exact hv
    rw [upd_ne _ _ e]
    exact keep m lm e (old_of e hm) hrow (fun c hcc => set_falseR (hcm c hcc))
  obtain ⟨lm, rm'⟩ := Option.isSome_iff_exists.1 rm
  obtain ⟨ln, rn'⟩ := Option.isSome_iff_exists.1 rn
  by_cases e : m = c0
  · have e2 : n ≠ c0 := fun e2 => hmn (e.trans e2.symm)
    rw [e, upd_same, upd_ne _ _ e2]
    exact fun g hg hv' => farv n ln e2 (old_of e2 hn) rn' (fun c hcc => set_falseR (cn c hcc)) g hv' hg
  by_cases e2 : n = c0
  · rw [e2, upd_same, upd_ne _ _ e]
    exact farv m lm e (old_of e hm) rm' (fun c hcc => set_falseR (cm c hcc))
  rw [upd_ne _ _ e, upd_ne _ _ e2]
  exact h.apart m n hmn (old_of e hm) (old_of e2 hn) rm rn (fun c hcc => set_falseR (cm c hcc)) (fun c hcc => set_falseR (cn c hcc))
end
theorem wp_frz {o : Oper} {a : Act} {w : World} {K : Act → World → Prop} {Q : Exit → Act → World → Prop} (x : Operand) (ho : o.op = .convert 23 23 x) (g : Nat) (l : List UInt8) (ha : a.eval x = .slice (some ⟨g, 0, none⟩) l.length l.length) (hb : Bk w g 5 (Lib.byteCells l).toArray)
    (hk : ∀ w', w'.heap[g]? = some (.cells (Lib.byteCells l).toArray 5 (l.length, l.length + 1)) → w.grownBy w' (some g) → K (a.put o.dst (.slice (some ⟨g, 0, none⟩) l.length l.length)) w') : o.wp Try.prog a w K Q := by
  have hsz : (Lib.byteCells l).toArray.size = l.length := by rw [List.size_toArray, byteCells_len]
  have hsh : w.shape? g = some (5, l.length) := by
    unfold World.shape?
    rw [show w.heap[g]? = some (.cells (Lib.byteCells l).toArray 5 (0, 0)) from hb]
    simp only [hsz]
  have hr : (convert 23 23 (.slice (some ⟨g, 0, none⟩) l.length l.length)).run Try.prog w = .ok (.slice (some ⟨g, 0, none⟩) l.length l.length) (w.freeze ⟨g, l.length, none⟩ 1) := by
    simp [convert, run_underlying Try.underlying23, run_underlying Try.underlying5, markStringish, hsh]
  have hlt : g < w.heap.size := blk_lt hb
  unfold Oper.wp execOp
  simp only [ho, ha, Sem.run_bind, hr]
  refine hk _ ?_ ⟨?_, ?_, ?_, ?_, fun k hk hne => ?_⟩
  · unfold World.freeze
    rw [if_neg (by decide)]
    simp only [Array.getElem?_modify]
    rw [show w.heap[g]? = some (.cells (Lib.byteCells l).toArray 5 (0, 0)) from hb]
    simp
  · unfold World.freeze; rw [if_neg (by decide)]
  · unfold World.freeze; rw [if_neg (by decide)]
  · unfold World.freeze; rw [if_neg (by decide)]
  · unfold World.freeze; rw [if_neg (by decide)]; simp
  unfold World.freeze
  rw [if_neg (by decide)]
  simp only [Array.getElem?_modify]
  rw [if_neg (fun e => hne (by rw [e]))]
def JF (cl : Nat) (J : Array Bool → (Nat → Value) → World → Prop) (Fin : World → Prop) (listed : Array Bool) (f : Nat → Value) (w : World) : Prop :=
  (listed.getD cl false = false → J listed f w) ∧ (listed.getD cl false = true → Fin w ∧ ∀ i, i < cl → listed.getD i false = true)
theorem JF.start {cl : Nat} {J : Array Bool → (Nat → Value) → World → Prop} {Fin : World → Prop} {listed : Array Bool} {f : Nat → Value} {w : World} (h0 : ∀ i, listed.getD i false = false) (h : J listed f w) : JF cl J Fin listed f w := ⟨fun _ => h, fun e => by rw [h0] at e; cases e⟩
theorem JF.get {cl : Nat} {J : Array Bool → (Nat → Value) → World → Prop} {Fin : World → Prop} {listed : Array Bool} {f : Nat → Value} {w : World} (h : JF cl J Fin listed f w) {i : Nat} (hi : i < cl) (hun : listed.getD i false = false) : listed.getD cl false = false ∧ J listed f w := by
  cases hc : listed.getD cl false with
  | true => rw [(h.2 hc).2 i hi] at hun; cases hun
  | false => exact ⟨rfl, h.1 hc⟩
theorem JF.step {cl : Nat} {J : Array Bool → (Nat → Value) → World → Prop} {Fin : World → Prop} {listed : Array Bool} {f : Nat → Value} {w' : World} {i : Nat} (hi : i < cl) (hc : listed.getD cl false = false) {v : Value} (h : J (listed.setIfInBounds i true) (upd f i v) w') : JF cl J Fin (listed.setIfInBounds i true) (upd f i v) w' :=
  ⟨fun _ => h, fun e => (by rw [gset (by omega) false] at e; rw [hc] at e; cases e)⟩
theorem JF.fin {cl : Nat} {J : Array Bool → (Nat → Value) → World → Prop} {Fin : World → Prop} {listed : Array Bool} {f : Nat → Value} {w' : World} (hl : cl < listed.size) (hall : ∀ i, i < cl → listed.getD i false = true) {v : Value} (h : Fin w') : JF cl J Fin (listed.setIfInBounds cl true) (upd f cl v) w' :=
  ⟨fun e => (by rw [set_new hl] at e; cases e), fun _ => ⟨h, fun i hi => by rw [gset (by omega) false]; exact hall i hi⟩⟩
end Go.Proofs.Ytopamplmpfndlaa
