/- FlR, FlS, FlT, Ta -/
import Derived.Test.YtmjfnpmnhehnkaaQad
import Derived.Laws.Slices
import Derived.Lib.BytesEntry
set_option maxRecDepth 100000
set_option maxHeartbeats 16000000
namespace Go.Proofs.Ytmjfnpmnhehnkaa
open Go.RowKit
structure Kt (S : List Nat) (B : Nat) (w w' : World) : Prop where
 below : Below B w w'
 typ : ∀ (h : Nat) (cs : Array Value) (t : TypeId) (fr : Nat × Nat), w.heap[h]? = some (.cells cs t fr) → t ∉ S → w'.heap[h]? = some (.cells cs t fr)
theorem Kt.size {S : List Nat} {B : Nat} {w w' : World} (h : Kt S B w w') : w.heap.size ≤ w'.heap.size := h.below.size
theorem Kt.refl (S : List Nat) (B : Nat) (w : World) : Kt S B w w := ⟨Below.refl _ _, fun _ _ _ _ h _ => h⟩
theorem Kt.trans {S : List Nat} {B : Nat} {a b c : World} (h : Kt S B a b) (k : Kt S B b c) : Kt S B a c := ⟨h.below.trans k.below, fun i cs t fr hi h1 => k.typ i cs t fr (h.typ i cs t fr hi h1) h1⟩
theorem Kt.mono {S S' : List Nat} {B : Nat} {a b : World} (h : Kt S B a b) (hs : ∀ x ∈ S, x ∈ S') : Kt S' B a b := ⟨h.below, fun i cs t fr hi h1 => h.typ i cs t fr hi (fun hx => h1 (hs _ hx))⟩
theorem blk_lt {w : World} {g : Nat} {o : Obj} (h : w.heap[g]? = some o) : g < w.heap.size := (Array.getElem?_eq_some_iff.1 h).1
theorem Ex.kt {S : List Nat} {B : Nat} {w w' : World} (h : Ex w w') (hB : B ≤ w.heap.size) : Kt S B w w' := ⟨h.mono hB, fun i _ _ _ hi _ => (h.block i (blk_lt hi)).trans hi⟩
theorem Kt.bk {S : List Nat} {B g : Nat} {w w' : World} {t : TypeId} {cs : Array Value} (h : Kt S B w w') (hb : Bk w g t cs) (ht : t ∉ S) : Bk w' g t cs := h.typ _ _ _ _ hb ht
theorem Kt.grown {w w' : World} {B : Nat} {e : TypeId} {sz n : Nat} {v : Value} {xs : List Value} (h : w.ownsRow B e sz v n xs) (k : w.grownBy w' v.ownBlock) (hB : B ≤ w.heap.size) : Kt [e] B w w' := by
 refine ⟨(Below.refl B w).grown k hB (fun j hj => (h.lt j hj).1), fun i cs t fr hi h1 => (k.block i (blk_lt hi) ?_).trans hi⟩
 intro he
 obtain ⟨_, ⟨hv, _⟩ | ⟨g, cap, cur, hv, _, hg, _⟩⟩ := h
 ·rw [hv] at he; cases he
 rw [hv] at he
 obtain rfl : i = g := by simpa [Value.ownBlock] using he
 rw [hg] at hi
 injection hi with hi
 injection hi with _ h2
 exact h1 (by rw [← h2]; exact List.mem_singleton.2 rfl)
theorem Kt.md {S : List Nat} {B g : Nat} {w w' : World} {t : TypeId} {cs : Array Value} (k : Md g w w') (hg : B ≤ g) (hb : Bk w g t cs) (ht : t ∈ S) : Kt S B w w' :=
 ⟨k.below B hg _ (Below.refl _ _), fun i cs' t' fr hi h1 => by
  refine (k.other i ?_ (blk_lt hi)).trans hi
  rintro rfl
  unfold Bk at hb
  rw [hb] at hi
  injection hi with hi
  injection hi with _ hi
  exact h1 (by rw [← hi]; exact ht)⟩
theorem Kt.row {S : List Nat} {B B' : Nat} {w w' : World} {e : TypeId} {sz n : Nat} {v : Value} {xs : List Value} (k : Kt S B w w') (h : w.ownsRow B' e sz v n xs) (he : e ∉ S) : w'.ownsRow B' e sz v n xs := by
 refine ⟨h.1, h.2.imp id fun ⟨g, cap, cur, hv, hb, hg, hr⟩ => ⟨g, cap, cur, hv, hb, k.typ _ _ _ _ hg he, hr⟩⟩
theorem Ex.row {B' : Nat} {w w' : World} {e : TypeId} {sz n : Nat} {v : Value} {xs : List Value} (k : Ex w w') (h : w.ownsRow B' e sz v n xs) : w'.ownsRow B' e sz v n xs :=
 (Ex.kt (S := []) (B := 0) k (Nat.zero_le _)).row h (by simp)
structure Rv (B : Nat) where
 ty : Nat
 holds : Value → World → Prop
 stab : ∀ S v w w', holds v w → Kt S B w w' → ty ∉ S → holds v w'
def Rv.is {B : Nat} (x : Value) : Rv B := ⟨0, fun v _ => v = x, fun _ _ _ _ h _ _ => h⟩
def Rv.any {B : Nat} : Rv B := ⟨0, fun _ _ => True, fun _ _ _ _ _ _ _ => trivial⟩
def Rv.own {B : Nat} (e : TypeId) (sz n : Nat) (xs : List Value) : Rv B := ⟨e, fun v w => w.ownsRow B e sz v n xs, fun _ _ _ _ h k hs => k.row h hs⟩
theorem set_falseR {l : Array Bool} {i k : Nat} (h : (l.setIfInBounds i true).getD k false = false) : l.getD k false = false := by
 by_cases e : i = k
 ·subst e
  rw [Array.getD_eq_getD_getElem?] at h ⊢
  by_cases hi : i < l.size
  ·rw [Array.getElem?_setIfInBounds_self_of_lt hi] at h; cases h
  rw [Array.getElem?_eq_none (by omega)]; rfl
 rw [gset e false] at h; exact h
structure JR (B : Nat) (base : World) (S : List Nat) (T : List (Rv B)) (tys : List Nat) (cons : List (Option Nat)) (prs : List (Nat × Nat)) (listed : Array Bool) (f : Nat → Value) (w : World) : Prop where
 lo : B ≤ w.heap.size
 ext : Kt S B base w
 vals : ∀ i, listed.getD i false = true → (∀ c, cons.getD i none = some c → listed.getD c false = false) → (T.getD i .any).holds (f i) w
 ord : ∀ x ∈ prs, listed.getD x.1 false = true → listed.getD x.2 false = true
theorem JR.start {B : Nat} {base : World} {S : List Nat} {T : List (Rv B)} {tys : List Nat} {cons : List (Option Nat)} {prs : List (Nat × Nat)} (hB : B ≤ base.heap.size) (listed : Array Bool) (f : Nat → Value) (h0 : ∀ i, listed.getD i false = false) : JR B base S T tys cons prs listed f base.drew :=
 ⟨hB, Ex.kt (show Ex base base.drew from (Below.refl base.heap.size base).drew) hB, fun i hi => absurd hi (by rw [h0 i]; decide), fun x _ hx => absurd hx (by rw [h0 x.1]; decide)⟩
theorem JR.next {B : Nat} {base : World} {S : List Nat} {T : List (Rv B)} {tys : List Nat} {cons : List (Option Nat)} {prs : List (Nat × Nat)} {listed : Array Bool} {f : Nat → Value} {w w' : World} (h : JR B base S T tys cons prs listed f w)
  (hty : T.map Rv.ty = tys) {i : Nat} (hi : i < listed.size) {v : Value} (S' : List Nat) (hS : ∀ x ∈ S', x ∈ S) (h0 : 0 ∉ S') (k : Kt S' B w w') (hv : (T.getD i .any).holds v w')
  (hc : ∀ j, j ≠ i → tys.getD j 0 ∈ S' → listed.getD j false = true → ∃ c, cons.getD j none = some c ∧ (c = i ∨ listed.getD c false = true))
  (ho : ∀ x ∈ prs, x.1 = i → listed.getD x.2 false = true) : JR B base S T tys cons prs (listed.setIfInBounds i true) (upd f i v) w' := by
 have new : (listed.setIfInBounds i true).getD i false = true := by
  rw [Array.getD_eq_getD_getElem?, Array.getElem?_setIfInBounds_self_of_lt hi]; rfl
 have mono : ∀ c, listed.getD c false = true → (listed.setIfInBounds i true).getD c false = true := fun c hc => by
  by_cases e : i = c
  ·subst e; exact new
  ·rw [gset e false]; exact hc
 refine ⟨Nat.le_trans h.lo k.size, h.ext.trans (k.mono hS), fun j hj hcj => ?_, fun x hx h1 => ?_⟩
 ·by_cases e : j = i
  ·subst e; rw [upd_same]; exact hv
  rw [upd_ne _ _ e]
  have hj' : listed.getD j false = true := by
   rcases listed_set hj with rfl | hj
   ·exact absurd rfl e
   ·exact hj
  have hold := h.vals j hj' (fun c hcc => set_falseR (hcj c hcc))
  refine (T.getD j .any).stab S' _ _ _ hold k ?_
  have ht : (T.getD j .any).ty = tys.getD j 0 := by
   rw [← hty, List.getD_eq_getElem?_getD, List.getD_eq_getElem?_getD, List.getElem?_map]
   cases T[j]? <;> rfl
  rw [ht]
  intro hin
  obtain ⟨c, hcc, hci⟩ := hc j e hin hj'
  have := hcj c hcc
  rcases hci with rfl | hci
  ·rw [new] at this; cases this
  rw [mono c hci] at this; cases this
 rcases listed_set h1 with e | h1
 ·exact mono _ (ho x hx e)
 exact mono _ (h.ord x hx h1)
theorem JR.plain {B : Nat} {base : World} {S : List Nat} {T : List (Rv B)} {tys : List Nat} {cons : List (Option Nat)} {prs : List (Nat × Nat)} {listed : Array Bool} {f : Nat → Value} {w w' : World} (h : JR B base S T tys cons prs listed f w)
  (hty : T.map Rv.ty = tys) {i : Nat} (hi : i < listed.size) {v : Value} (k : Ex w w') (hv : (T.getD i .any).holds v w')
  (ho : ∀ x ∈ prs, x.1 = i → listed.getD x.2 false = true) : JR B base S T tys cons prs (listed.setIfInBounds i true) (upd f i v) w' :=
 h.next hty hi [] (by simp) (by simp) (k.kt h.lo) hv (by simp) ho
theorem wp_rapp {o : Oper} {a : Act} {w : World} {K : Act → World → Prop} {Q : Exit → Act → World → Prop} (s x : Operand) (t e : TypeId) (z : Value) (sz bytes : Nat)
  (hop : o.op = .call { callee := .builtin .append, args := #[s, x], argTypes := #[t, t] }) (hu : Try.prog.underlying t = some (.slice e))
  (hinfo : (Try.prog.info? e).map (fun i => (i.zero, i.size, i.bytes)) = some (some z, sz, bytes)) (hz : z.cells.size = sz) (hp : 0 < sz)
  (B n : Nat) (v : Value) (xs : List Value) (hs : a.eval s = v) (hown : w.ownsRow B e sz v n xs) (hB : B ≤ w.heap.size)
  (ad : Option Addr) (m c : Nat) (ys : List Value) (hx : a.eval x = .slice ad m c) (hl : ys.length = m * sz) (hnil : ad = none → c = 0 ∧ m = 0)
  (hr : ∀ A, ad = some A → ∀ j u, ys[j]? = some u → w.cell? (A.add j) = some u) (h1 : ∀ u ∈ ys, u.oneCell' = true)
  (hN : n + m ≤ 9223372036854775807) (hby : (n + m) * bytes ≤ 140737488355328)
  (h : ∀ v' w', w'.ownsRow B e sz v' (n + m) (xs ++ ys) → Kt [e] B w w' → (v = .slice none 0 0 → Ex w w') → K (a.put o.dst v') w') : o.wp Try.prog a w K Q := by
 obtain ⟨i0, hi0, hz0, hz1, hz2⟩ := info_parts hinfo
 have key : ∃ v' w', (Builtin.append_ #[t, t] o.type #[v, .slice ad m c]).run Try.prog w = .ok v' w' ∧ w'.ownsRow B e sz v' (n + m) (xs ++ ys) ∧ Kt [e] B w w' ∧ (v = .slice none 0 0 → Ex w w') := by
  cases had : ad with
  | none =>
   obtain ⟨rfl, rfl⟩ := hnil had
   obtain rfl : ys = [] := List.eq_nil_of_length_eq_zero (by rw [hl]; exact Nat.zero_mul _)
   refine ⟨v, w, run_append_owned_none w B t o.type e i0 sz hu hi0 v n xs hown, ?_, Kt.refl _ _ _, fun _ => Ex.refl _⟩
   rw [List.append_nil]; exact hown
  | some A =>
   obtain ⟨v', w', hrun, r1, r2, _⟩ := run_append_own (P := Try.prog) w B t o.type e i0 z sz bytes hu hi0 hz0 hz1 hz2 hz hp v n xs hown A m c ys hl (hr A had) h1 hN hby hB
   exact ⟨v', w', hrun, r1, Kt.grown hown r2 hB, fun hv => (Below.refl _ _).grown r2 (Nat.le_refl _) (fun k hk => by rw [hv] at hk; cases hk)⟩
 obtain ⟨v', w', hrun, r1, r2, r3⟩ := key
 unfold Oper.wp
 simp [execOp, hop, resolve, invoke, builtin, hs, hx, hrun, Result.andThen]
 exact h v' w' r1 r2 r3
end Go.Proofs.Ytmjfnpmnhehnkaa
namespace Go.Proofs.Ytmjfnpmnhehnkaa
open Go.RowKit
structure Rd (w : World) (ad : Option Addr) (n sz : Nat) (ys : List Value) : Prop where
 len : ys.length = n * sz
 read : 0 < n → ∃ a o, ad = some ⟨a, o, none⟩ ∧ a < w.heap.size ∧ ∀ j u, ys[j]? = some u → w.cell? ⟨a, o + j, none⟩ = some u
theorem Rd.ext {w w' : World} {ad : Option Addr} {n sz : Nat} {ys : List Value} (h : Rd w ad n sz ys) (k : Ex w w') : Rd w' ad n sz ys := ⟨h.len, fun h0 => by
 obtain ⟨a, o, e, hl, hc⟩ := h.read h0
 exact ⟨a, o, e, Nat.lt_of_lt_of_le hl k.size, fun j u hu => (Below.cell (p := ⟨a, o + j, none⟩) k hl).trans (hc j u hu)⟩⟩
theorem Rd.at {w : World} {ad : Option Addr} {n sz : Nat} {ys : List Value} (h : Rd w ad n sz ys) (A : Addr) (hA : ad = some A) (j : Nat) (u : Value) (hu : ys[j]? = some u) : w.cell? (A.add j) = some u := by
 have h0 : 0 < n := by
  rcases Nat.eq_zero_or_pos n with h0 | h0
  ·have := (List.getElem?_eq_some_iff.1 hu).1
   rw [h.len, h0, Nat.zero_mul] at this; omega
  ·exact h0
 obtain ⟨a, o, e, hl, hc⟩ := h.read h0
 rw [e] at hA; cases hA
 rw [Addr.add_lit]
 exact hc j u hu
theorem own_rd {w : World} {B : Nat} {e : TypeId} {sz n : Nat} {v : Value} {xs : List Value} (h : w.ownsRow B e sz v n xs) : ∃ ad cap, v = .slice ad n cap ∧ (ad = none → cap = 0) ∧ n ≤ cap ∧ cap ≤ 9223372036854775807 ∧ Rd w ad n sz xs := by
 obtain ⟨h1, ⟨hv, h0⟩ | ⟨g, cap, cur, rfl, hb, hh, hc, hm, hs, ht⟩⟩ := h
 ·exact ⟨none, 0, by rw [h0]; exact hv, fun _ => rfl, by omega, by omega, ⟨h1, fun h => by omega⟩⟩
 refine ⟨some ⟨g, 0, none⟩, cap, rfl, (fun h => by cases h), hc, by simpa [maxLen] using hm, ⟨h1, fun _ => ⟨g, 0, rfl, (show Bk w g e cur from hh).lt, fun j u hu => ?_⟩⟩⟩
 rw [(show Bk w g e cur from hh).cell, Nat.zero_add, ← Array.getElem?_toList]
 rw [← ht, List.getElem?_take] at hu
 split at hu
 ·exact hu
 cases hu
theorem Rd.take {w : World} {ad : Option Addr} {n sz cap : Nat} {ys : List Value} (h : Rd w ad n sz ys) (hnil : ad = none → cap = 0) (hc : n ≤ cap) (k : Nat) (hk : k ≤ n) :
  ∃ ad', sliced ad 0 k cap sz = .slice ad' k cap ∧ (ad' = none → cap = 0) ∧ Rd w ad' k sz (ys.take (k * sz)) := by
 have hl : (ys.take (k * sz)).length = k * sz := by
  rw [List.length_take, h.len]
  exact Nat.min_eq_left (Nat.mul_le_mul_right _ hk)
 cases ad with
 | none =>
  have := hnil rfl
  exact ⟨none, by unfold sliced; simp, fun _ => this, ⟨hl, fun h => by omega⟩⟩
 | some A =>
  by_cases h0 : 0 < k
  ·obtain ⟨a, o, e, hla, hr⟩ := h.read (by omega)
   cases e
   refine ⟨some ⟨a, o, none⟩, by unfold sliced; rw [if_neg (by omega), Option.map_some, Nat.zero_mul, Addr.add_lit]; rfl, (fun h => by cases h), ⟨hl, fun _ => ⟨a, o, rfl, hla, fun j u hu => hr j u ?_⟩⟩⟩
   rw [List.getElem?_take] at hu
   split at hu
   ·exact hu
   ·cases hu
  ·obtain rfl : k = 0 := by omega
   refine ⟨_, rfl, fun hn => ?_, ⟨hl, fun h => absurd h (Nat.lt_irrefl 0)⟩⟩
   split at hn <;> simp at hn
theorem Rd.drop {w : World} {ad : Option Addr} {n sz cap : Nat} {ys : List Value} (h : Rd w ad n sz ys) (hnil : ad = none → cap = 0) (hc : n ≤ cap) (k : Nat) (hk : k ≤ n) :
  ∃ ad', sliced ad k n cap sz = .slice ad' (n - k) (cap - k) ∧ (ad' = none → cap - k = 0) ∧ Rd w ad' (n - k) sz (ys.drop (k * sz)) := by
 have hl : (ys.drop (k * sz)).length = (n - k) * sz := by
  rw [List.length_drop, h.len, Nat.sub_mul]
 cases ad with
 | none =>
  have := hnil rfl
  exact ⟨none, by unfold sliced; simp, fun _ => by omega, ⟨hl, fun h => by omega⟩⟩
 | some A =>
  by_cases h0 : k < n
  ·obtain ⟨a, o, e, hla, hr⟩ := h.read (by omega)
   cases e
   refine ⟨some ⟨a, o + k * sz, none⟩, by unfold sliced; rw [if_neg (by omega), Option.map_some, Addr.add_lit], (fun h => by cases h), ⟨hl, fun _ => ⟨a, o + k * sz, rfl, hla, fun j u hu => ?_⟩⟩⟩
   rw [List.getElem?_drop] at hu
   rw [Nat.add_assoc]
   exact hr _ u hu
  ·obtain rfl : k = n := by omega
   refine ⟨_, rfl, fun hn => ?_, ⟨hl, fun h => by omega⟩⟩
   split at hn <;> simp at hn
section
variable {o : Oper} {a : Act} {w : World} {K : Act → World → Prop} {Q : Exit → Act → World → Prop}
theorem wp_sl_h (t : TypeId) (x h : Operand) (hop : o.op = .slice t x none (some h) none) (ht : Try.prog.underlying t = some (.slice (Try.prog.elem t))) (sz : Nat) (hs : ∀ w, (sizeOf (Try.prog.elem t)).run Try.prog w = .ok sz w)
  (ad : Option Addr) (n cap k : Nat) (hx : a.eval x = .slice ad n cap) (hh : a.eval h = .int .i64 k) (hk : k ≤ cap) (hK : K (a.put o.dst (sliced ad 0 k cap sz)) w) : o.wp Try.prog a w K Q := by
 have hr := run_slice_h (P := Try.prog) (w := w) t ad n cap ht .i64 (k : Int) (by omega) (by omega)
 rw [hs, Int.toNat_natCast] at hr
 unfold Oper.wp
 obtain ⟨ev, hev⟩ : ∃ ev, ev = a.eval := ⟨_, rfl⟩
 rw [← hev] at hx hh ⊢
 clear hev
 unfold execOp
 simp only [hop]
 simp [hx, hh, go_sem, run_sliceAt_slice (P := Try.prog) _ t _ _ _ _ ht, hr, Result.andThen]
 rw [show sliced ad 0 k cap sz = .slice ad k cap from by simp [sliced, go_sem]] at hK
 exact hK
theorem wp_sl_l (t : TypeId) (x l : Operand) (hop : o.op = .slice t x (some l) none none) (ht : Try.prog.underlying t = some (.slice (Try.prog.elem t))) (sz : Nat) (hs : ∀ w, (sizeOf (Try.prog.elem t)).run Try.prog w = .ok sz w)
  (ad : Option Addr) (n cap k : Nat) (hx : a.eval x = .slice ad n cap) (hl : a.eval l = .int .i64 k) (hk : k ≤ n) (hK : K (a.put o.dst (sliced ad k n cap sz)) w) : o.wp Try.prog a w K Q := by
 have hr := run_slice_l (P := Try.prog) (w := w) t ad n cap ht .i64 (k : Int) (by omega) (by omega)
 rw [hs, Int.toNat_natCast] at hr
 unfold Oper.wp
 obtain ⟨ev, hev⟩ : ∃ ev, ev = a.eval := ⟨_, rfl⟩
 rw [← hev] at hx hl ⊢
 clear hev
 unfold execOp
 simp only [hop]
 simp [hx, hl, go_sem, run_sliceAt_slice (P := Try.prog) _ t _ _ _ _ ht, hr, Result.andThen]
 exact hK
end
def Emp (B : Nat) (w : World) (e : TypeId) (v : Value) : Prop := ∃ g, v = .slice (some ⟨g, 0, none⟩) 0 0 ∧ B ≤ g ∧ Bk w g e #[]
theorem Emp.own {B : Nat} {w : World} {e : TypeId} {v : Value} (h : Emp B w e v) (sz : Nat) : w.ownsRow B e sz v 0 [] := by
 obtain ⟨g, rfl, hB, hb⟩ := h
 exact ⟨by simp, .inr ⟨g, 0, #[], rfl, hB, hb, Nat.le_refl _, by decide, by simp, by simp⟩⟩
def One (w : World) (e : TypeId) (cs : List Value) (v : Value) : Prop := ∃ g, v = .slice (some ⟨g, 0, none⟩) 1 1 ∧ Bk w g e cs.toArray
def Rv.emp {B : Nat} (e : TypeId) : Rv B := ⟨e, fun v w => Emp B w e v, fun _ _ _ _ ⟨g, h1, h2, h3⟩ k hs => ⟨g, h1, h2, k.bk h3 hs⟩⟩
def Rv.one {B : Nat} (e : TypeId) (cs : List Value) : Rv B := ⟨e, fun v w => One w e cs v, fun _ _ _ _ ⟨g, h1, h2⟩ k hs => ⟨g, h1, k.bk h2 hs⟩⟩
theorem One.rd {w : World} {e : TypeId} {cs : List Value} {v : Value} (h : One w e cs v) : ∃ ad, v = .slice ad 1 1 ∧ (ad = none → 1 = 0) ∧ Rd w ad 1 cs.length cs := by
 obtain ⟨g, rfl, hb⟩ := h
 refine ⟨_, rfl, (fun h => by cases h), ⟨by omega, fun _ => ⟨g, 0, rfl, hb.lt, fun j u hu => ?_⟩⟩⟩
 rw [Nat.zero_add, hb.cell]; simpa using hu
section
variable {o : Oper} {a : Act} {w : World} {K : Act → World → Prop} {Q : Exit → Act → World → Prop}
theorem wp_rd (s x : Operand) (t e : TypeId) (z : Value) (sz bytes : Nat)
  (hop : o.op = .call { callee := .builtin .append, args := #[s, x], argTypes := #[t, t] }) (hu : Try.prog.underlying t = some (.slice e))
  (hinfo : (Try.prog.info? e).map (fun i => (i.zero, i.size, i.bytes)) = some (some z, sz, bytes)) (hz : z.cells.size = sz) (hp : 0 < sz)
  (B n : Nat) (v : Value) (xs : List Value) (hs : a.eval s = v) (hown : w.ownsRow B e sz v n xs) (hB : B ≤ w.heap.size)
  (ad : Option Addr) (m c : Nat) (ys : List Value) (hx : a.eval x = .slice ad m c) (hrd : Rd w ad m sz ys) (hc : m ≤ c) (hnil : ad = none → c = 0) (h1 : ∀ u ∈ ys, u.oneCell' = true)
  (hN : n + m ≤ 9223372036854775807) (hby : (n + m) * bytes ≤ 140737488355328)
  (h : ∀ v' w', w'.ownsRow B e sz v' (n + m) (xs ++ ys) → Kt [e] B w w' → K (a.put o.dst v') w') : o.wp Try.prog a w K Q :=
 wp_rapp s x t e z sz bytes hop hu hinfo hz hp B n v xs hs hown hB ad m c ys hx hrd.len (fun hn => by have := hnil hn; exact ⟨this, by omega⟩) hrd.at h1 hN hby fun v' w' r1 r2 _ => h v' w' r1 r2
theorem wp_rd0 (s x : Operand) (t e : TypeId) (z : Value) (sz bytes : Nat)
  (hop : o.op = .call { callee := .builtin .append, args := #[s, x], argTypes := #[t, t] }) (hu : Try.prog.underlying t = some (.slice e))
  (hinfo : (Try.prog.info? e).map (fun i => (i.zero, i.size, i.bytes)) = some (some z, sz, bytes)) (hz : z.cells.size = sz) (hp : 0 < sz)
  (B : Nat) (v : Value) (hs : a.eval s = v) (hown : Emp B w e v) (hB : B ≤ w.heap.size)
  (ad : Option Addr) (m c : Nat) (ys : List Value) (hx : a.eval x = .slice ad m c) (hrd : Rd w ad m sz ys) (hc : m ≤ c) (hnil : ad = none → c = 0) (h1 : ∀ u ∈ ys, u.oneCell' = true)
  (hN : m ≤ 9223372036854775807) (hby : m * bytes ≤ 140737488355328)
  (h : ∀ v' w', w'.ownsRow B e sz v' m ys → Ex w w' → K (a.put o.dst v') w') : o.wp Try.prog a w K Q := by
 obtain ⟨i0, hi0, hz0, hz1, hz2⟩ := info_parts hinfo
 have ho := hown.own sz
 have key : ∃ v' w', (Builtin.append_ #[t, t] o.type #[v, .slice ad m c]).run Try.prog w = .ok v' w' ∧ w'.ownsRow B e sz v' m ys ∧ Ex w w' := by
  by_cases h0 : 0 < m
  ·obtain ⟨b, oo, rfl, _, _⟩ := hrd.read h0
   obtain ⟨g, rfl, hg, hb⟩ := hown
   obtain ⟨v', w', hrun, r1, r2⟩ := run_append_arg_grows (P := Try.prog) w t o.type e i0 z sz bytes hu hi0 hz0 hz1 hz2 hz hp ⟨g, 0, none⟩ 0 0 [] (by simp) (by simp) ⟨b, oo, none⟩ m c ys hrd.len (hrd.at _ rfl) (by omega) (by unfold maxLen; omega) (by rw [Nat.zero_add]; exact hby)
   refine ⟨v', w', hrun, ?_, (Below.refl _ _).grown r2 (Nat.le_refl _) (fun k hk => by cases hk)⟩
   rw [Nat.zero_add, List.nil_append] at r1
   exact ⟨r1.1, r1.2.imp id fun ⟨g, cap, cur, hv, hb, hr⟩ => ⟨g, cap, cur, hv, Nat.le_trans hB hb, hr⟩⟩
  ·obtain rfl : m = 0 := by omega
   obtain rfl : ys = [] := List.eq_nil_of_length_eq_zero (by rw [hrd.len, Nat.zero_mul])
   cases ad with
   | none =>
    have := hnil rfl
    subst this
    exact ⟨v, w, run_append_owned_none w B t o.type e i0 sz hu hi0 v 0 [] ho, ho, Ex.refl _⟩
   | some A =>
    obtain ⟨g, rfl, hg, hb⟩ := hown
    refine ⟨.slice (some ⟨g, 0, none⟩) 0 0, w, ?_, ho, Ex.refl _⟩
    simp [Builtin.append_, run_underlying hu, sizeOf, typeInfo, hi0, Builtin.lenOf, Builtin.firstCells, storeCells, loadCells, loadCellsFrom, World.cells?]
 obtain ⟨v', w', hrun, r1, r2⟩ := key
 unfold Oper.wp
 simp [execOp, hop, resolve, invoke, builtin, hs, hx, hrun, Result.andThen]
 exact h v' w' r1 r2
end
theorem rown_less {w : World} {B B' : Nat} {e : TypeId} {sz n : Nat} {v : Value} {xs : List Value} (h : w.ownsRow B e sz v n xs) (k : B' ≤ B) : w.ownsRow B' e sz v n xs :=
 ⟨h.1, h.2.imp id fun ⟨g, cap, cur, hv, hb, hr⟩ => ⟨g, cap, cur, hv, Nat.le_trans k hb, hr⟩⟩
end Go.Proofs.Ytmjfnpmnhehnkaa
namespace Go.Proofs.Ytmjfnpmnhehnkaa
open Go.RowKit
structure Rw (B : Nat) where
 tys : List Nat
 holds : Value → World → Prop
 stab : ∀ S v w w', holds v w → Kt S B w w' → (∀ t ∈ tys, t ∉ S) → holds v w'
def Rw.is {B : Nat} (x : Value) : Rw B := ⟨[], fun v _ => v = x, fun _ _ _ _ h _ _ => h⟩
def Rw.any {B : Nat} : Rw B := ⟨[], fun _ _ => True, fun _ _ _ _ _ _ _ => trivial⟩
def Rw.own {B : Nat} (e : TypeId) (sz n : Nat) (xs : List Value) : Rw B := ⟨[e], fun v w => w.ownsRow B e sz v n xs, fun _ _ _ _ h k hs => k.row h (hs e (List.mem_singleton.2 rfl))⟩
def Rw.emp {B : Nat} (e : TypeId) : Rw B := ⟨[e], fun v w => Emp B w e v, fun _ _ _ _ ⟨g, h1, h2, h3⟩ k hs => ⟨g, h1, h2, k.bk h3 (hs e (List.mem_singleton.2 rfl))⟩⟩
def Many (w : World) (e : TypeId) (n : Nat) (cs : List Value) (v : Value) : Prop := ∃ g, v = .slice (some ⟨g, 0, none⟩) n n ∧ Bk w g e cs.toArray
theorem Many.rd {w : World} {e : TypeId} {n sz : Nat} {cs : List Value} {v : Value} (h : Many w e n cs v) (hl : cs.length = n * sz) : ∃ ad, v = .slice ad n n ∧ (ad = none → n = 0) ∧ Rd w ad n sz cs := by
 obtain ⟨g, rfl, hb⟩ := h
 refine ⟨_, rfl, (fun h => by cases h), ⟨hl, fun _ => ⟨g, 0, rfl, hb.lt, fun j u hu => ?_⟩⟩⟩
 rw [Nat.zero_add, hb.cell]; simpa using hu
structure JW (B : Nat) (base : World) (S : List Nat) (T : List (Rw B)) (tyss : List (List Nat)) (cons : List (Option Nat)) (prs : List (Nat × Nat)) (cut : Nat) (listed : Array Bool) (f : Nat → Value) (w : World) : Prop where
 lo : B ≤ w.heap.size
 ext : Kt S B base w
 vals : ∀ i, listed.getD i false = true → (∀ c, cons.getD i none = some c → listed.getD c false = false) → (T.getD i .any).holds (f i) w
 ord : ∀ x ∈ prs, listed.getD x.1 false = true → listed.getD x.2 false = true
 pre : listed.getD cut false = false → Ex base w
section
variable {B : Nat} {base : World} {S : List Nat} {T : List (Rw B)} {tyss : List (List Nat)} {cons : List (Option Nat)} {prs : List (Nat × Nat)} {cut : Nat}
theorem JW.start (hB : B ≤ base.heap.size) (listed : Array Bool) (f : Nat → Value) (h0 : ∀ i, listed.getD i false = false) : JW B base S T tyss cons prs cut listed f base.drew :=
 ⟨hB, Ex.kt (show Ex base base.drew from (Below.refl base.heap.size base).drew) hB, fun i hi => absurd hi (by rw [h0 i]; decide), fun x _ hx => absurd hx (by rw [h0 x.1]; decide), fun _ => (Below.refl base.heap.size base).drew⟩
theorem set_new {listed : Array Bool} {i : Nat} (hi : i < listed.size) : (listed.setIfInBounds i true).getD i false = true := by
 rw [Array.getD_eq_getD_getElem?, Array.getElem?_setIfInBounds_self_of_lt hi]; rfl
theorem JW.next {listed : Array Bool} {f : Nat → Value} {w w' : World} (h : JW B base S T tyss cons prs cut listed f w)
  (hty : T.map Rw.tys = tyss) {i : Nat} (hi : i < listed.size) {v : Value} (S' : List Nat) (hS : ∀ x ∈ S', x ∈ S) (k : Kt S' B w w') (hv : (T.getD i .any).holds v w')
  (hc : ∀ j, j ≠ i → (∃ t ∈ S', t ∈ tyss.getD j []) → listed.getD j false = true → ∃ c, cons.getD j none = some c ∧ (c = i ∨ listed.getD c false = true))
  (ho : ∀ x ∈ prs, x.1 = i → listed.getD x.2 false = true) (hp : (listed.setIfInBounds i true).getD cut false = false → Ex base w') : JW B base S T tyss cons prs cut (listed.setIfInBounds i true) (upd f i v) w' := by
 have new := set_new hi
 have mono : ∀ c, listed.getD c false = true → (listed.setIfInBounds i true).getD c false = true := fun c hc => by
  by_cases e : i = c
  ·subst e; exact new
  ·rw [gset e false]; exact hc
 refine ⟨Nat.le_trans h.lo k.size, h.ext.trans (k.mono hS), fun j hj hcj => ?_, fun x hx h1 => ?_, hp⟩
 ·by_cases e : j = i
  ·subst e; rw [upd_same]; exact hv
  rw [upd_ne _ _ e]
  have hj' : listed.getD j false = true := by
   rcases listed_set hj with rfl | hj
   ·exact absurd rfl e
   ·exact hj
  have hold := h.vals j hj' (fun c hcc => set_falseR (hcj c hcc))
  refine (T.getD j .any).stab S' _ _ _ hold k ?_
  have ht : (T.getD j .any).tys = tyss.getD j [] := by
   rw [← hty, List.getD_eq_getElem?_getD, List.getD_eq_getElem?_getD, List.getElem?_map]
   cases T[j]? <;> rfl
  rw [ht]
  intro t htj hin
  obtain ⟨c, hcc, hci⟩ := hc j e ⟨t, hin, htj⟩ hj'
  have := hcj c hcc
  rcases hci with rfl | hci
  ·rw [new] at this; cases this
  rw [mono c hci] at this; cases this
 rcases listed_set h1 with e | h1
 ·exact mono _ (ho x hx e)
 exact mono _ (h.ord x hx h1)
theorem JW.plain {listed : Array Bool} {f : Nat → Value} {w w' : World} (h : JW B base S T tyss cons prs cut listed f w)
  (hty : T.map Rw.tys = tyss) {i : Nat} (hi : i < listed.size) {v : Value} (k : Ex w w') (hv : (T.getD i .any).holds v w')
  (ho : ∀ x ∈ prs, x.1 = i → listed.getD x.2 false = true) : JW B base S T tyss cons prs cut (listed.setIfInBounds i true) (upd f i v) w' :=
 h.next hty hi [] (by simp) (k.kt h.lo) hv (fun j _ ⟨t, ht, _⟩ => by simp at ht) ho (fun hp => Ex.trans (h.pre (set_falseR hp)) k)
theorem JW.iw {TT : List (Rw B)} {listed : Array Bool} {f : Nat → Value} {w : World} (h : JW B base S T tyss cons prs cut listed f w) (hT : T = TT) {j : Nat} {ops : Array Oper} {tm : Array Value} (hd : listed.getD j false = true ∧ ∀ oj, ops[j]? = some oj → ∀ t, oj.dst = some t → tm.getD t undef = f j) {V : Value} (hV : TT.getD j .any = .is V) (hc : cons.getD j none = none) (oj : Oper) (ho : ops[j]? = some oj) (t : Tmp) (ht : oj.dst = some t) : tm.getD t undef = V := by
 have h1 := h.vals j hd.1 (fun c h9 => by rw [hc] at h9; cases h9)
 rw [hT, hV] at h1
 rw [hd.2 oj ho t ht]; exact h1
theorem JW.iv {TT : List (Rw B)} {listed : Array Bool} {f : Nat → Value} {w : World} (h : JW B base S T tyss cons prs cut listed f w) (hT : T = TT) {j : Nat} {ops : Array Oper} {tm : Array Value} (hd : listed.getD j false = true ∧ ∀ oj, ops[j]? = some oj → ∀ t, oj.dst = some t → tm.getD t undef = f j) {V : Value} (hV : TT.getD j .any = .is V) (hc : cons.getD j none = none) (oj : Oper) (ho : ops[j]? = some oj) (t : Tmp) (ht : oj.dst = some t) : tm[t]?.getD undef = V := by
 rw [← Array.getD_eq_getD_getElem?]; exact h.iw hT hd hV hc oj ho t ht
theorem JW.pl {TT : List (Rw B)} {listed : Array Bool} {f : Nat → Value} {w : World} {N : Nat} (h : JW B base S T tyss cons prs cut listed f w) (hty : T.map Rw.tys = tyss) (hls : listed.size = N) (hT : T = TT) {i : Nat} {v : Value} (hv : (TT.getD i .any).holds v w) (hi : decide (i < N) = true := by rfl) (ho : (prs.all fun x => x.1 != i) = true := by decide) : JW B base S T tyss cons prs cut (listed.setIfInBounds i true) (upd f i v) w :=
 h.plain hty (by rw [hls]; exact of_decide_eq_true hi) (Ex.refl _) (by rw [hT]; exact hv) (fun x hx e => by have := List.all_eq_true.1 ho x hx; simp [e] at this)
theorem JW.pa {TT : List (Rw B)} {listed : Array Bool} {f : Nat → Value} {w : World} {N : Nat} (h : JW B base S T tyss cons prs cut listed f w) (hty : T.map Rw.tys = tyss) (hls : listed.size = N) (hT : T = TT) {i : Nat} {v : Value} (hi : decide (i < N) = true := by rfl) (ho : (prs.all fun x => x.1 != i) = true := by decide) (hv : (TT.getD i .any).holds v w := by first | rfl | exact congrArg (Value.int .i64) (by omega) | exact congrArg (Value.int .i64) (by rw [IntKind.wrap_i64]; omega)) : JW B base S T tyss cons prs cut (listed.setIfInBounds i true) (upd f i v) w :=
 h.pl hty hls hT hv hi ho
end
theorem nil_ord (i : Nat) (l : Array Bool) : ∀ x ∈ ([] : List (Nat × Nat)), x.1 = i → l.getD x.2 false = true := by simp
theorem no_head {prs : List (Nat × Nat)} {i : Nat} {listed : Array Bool} (h : (prs.all fun x => x.1 != i) = true) : ∀ x ∈ prs, x.1 = i → listed.getD x.2 false = true := fun x hx e => by
 have := List.all_eq_true.1 h x hx
 rw [e] at this
 simp at this
theorem nh {prs : List (Nat × Nat)} {i : Nat} {listed : Array Bool} (h : (prs.all fun x => x.1 != i) = true := by decide) : ∀ x ∈ prs, x.1 = i → listed.getD x.2 false = true := no_head h
theorem gd9 {α : Type} {xs : Array α} {i : Nat} {d : α} : xs.getD i d = xs[i]?.getD d := Array.getD_eq_getD_getElem?
theorem no_c {P : Nat → Prop} : ∀ c, (none : Option Nat) = some c → P c := fun c h => by cases h
theorem int_eq {a b : Int} (h : a = b) : Value.int .i64 a = Value.int .i64 b := congrArg _ h
end Go.Proofs.Ytmjfnpmnhehnkaa
namespace Go.Proofs.Ytmjfnpmnhehnkaa
open Go.RowKit
def idn : List UInt8 → Nat
 | [a, b, c, d] => a.toNat * 16777216 + b.toNat * 65536 + c.toNat * 256 + d.toNat
 | _ => 0
def cmpN (a b : Nat) : Int := if a < b then -1 else if b < a then 1 else 0
theorem cmp_step (a p A B M : Nat) (hA : A < M) (hB : B < M) : (if a < p then -1 else if p < a then 1 else cmpN A B) = cmpN (a * M + A) (p * M + B) := by
 rcases Nat.lt_trichotomy a p with h | h | h
 ·have h1 : (a + 1) * M ≤ p * M := Nat.mul_le_mul_right _ h
  rw [Nat.add_mul, Nat.one_mul] at h1
  unfold cmpN
  rw [if_pos h, if_pos (by omega)]
 ·subst h
  unfold cmpN
  rw [if_neg (by omega), if_neg (by omega)]
  by_cases h1 : A < B
  ·rw [if_pos h1, if_pos (by omega)]
  rw [if_neg h1, if_neg (by omega : ¬ a * M + A < a * M + B)]
  by_cases h2 : B < A
  ·rw [if_pos h2, if_pos (by omega)]
  rw [if_neg h2, if_neg (by omega)]
 have h1 : (p + 1) * M ≤ a * M := Nat.mul_le_mul_right _ h
 rw [Nat.add_mul, Nat.one_mul] at h1
 unfold cmpN
 rw [if_neg (by omega), if_pos h, if_neg (by omega), if_pos (by omega)]
theorem cmp_idn {x y : List UInt8} (hx : x.length = 4) (hy : y.length = 4) : Lib.compareBytes x y = cmpN (idn x) (idn y) := by
 obtain ⟨a, b, c, d, rfl⟩ := len4 hx
 obtain ⟨p, q, r, s, rfl⟩ := len4 hy
 have ha := a.toNat_lt; have hb := b.toNat_lt; have hc := c.toNat_lt; have hd := d.toNat_lt
 have hp := p.toNat_lt; have hq := q.toNat_lt; have hr := r.toNat_lt; have hs := s.toNat_lt
 have e0 : Lib.compareBytes [d] [s] = cmpN d.toNat s.toNat := by
  simp only [Lib.compareBytes, cmpN, UInt8.lt_iff_toNat_lt]
 have e1 := cmp_step c.toNat r.toNat d.toNat s.toNat 256 hd hs
 have e2 := cmp_step b.toNat q.toNat (c.toNat * 256 + d.toNat) (r.toNat * 256 + s.toNat) 65536 (by omega) (by omega)
 have e3 := cmp_step a.toNat p.toNat (b.toNat * 65536 + (c.toNat * 256 + d.toNat)) (q.toNat * 65536 + (r.toNat * 256 + s.toNat)) 16777216 (by omega) (by omega)
 have u : ∀ (a p : UInt8) (A B : List UInt8), Lib.compareBytes (a :: A) (p :: B) = if a.toNat < p.toNat then -1 else if p.toNat < a.toNat then 1 else Lib.compareBytes A B := fun a p A B => by
  simp only [Lib.compareBytes, UInt8.lt_iff_toNat_lt]
 rw [u, u, u, e0, e1, e2, e3]
 unfold idn
 simp only [Nat.add_assoc]
theorem idn_inj {x y : List UInt8} (hx : x.length = 4) (hy : y.length = 4) (h : idn x = idn y) : x = y := by
 obtain ⟨a, b, c, d, rfl⟩ := len4 hx
 obtain ⟨p, q, r, s, rfl⟩ := len4 hy
 have ha := a.toNat_lt; have hb := b.toNat_lt; have hc := c.toNat_lt; have hd := d.toNat_lt
 have hp := p.toNat_lt; have hq := q.toNat_lt; have hr := r.toNat_lt; have hs := s.toNat_lt
 simp only [idn] at h
 have e1 : a = p := UInt8.toNat_inj.1 (by omega)
 have e2 : b = q := UInt8.toNat_inj.1 (by omega)
 have e3 : c = r := UInt8.toNat_inj.1 (by omega)
 have e4 : d = s := UInt8.toNat_inj.1 (by omega)
 rw [e1, e2, e3, e4]
theorem run_bytesOf (w : World) (p : Pt) {B : Nat} (h : p.In w B) : (Extern.Bytes.bytesOf p.V).run Try.prog w = .ok ⟨p.l.toArray⟩ w := by
 unfold Pt.V
 cases ha : p.ad with
 | none =>
  have := h.nil ha
  have hl : p.l = [] := List.eq_nil_of_length_eq_zero (by have := h.cap; omega)
  rw [hl]; rfl
 | some A =>
  have hb := Lib.run_loadBytesX (P := Try.prog) w (p.l.map fun b => (b.toNat : Int)) A .empty (fun j x hj => by
   rw [List.getElem?_map] at hj
   have h0 : 0 < p.l.length := by
    cases hq : p.l[j]? with
    | none => rw [hq] at hj; cases hj
    | some _ => have := (List.getElem?_eq_some_iff.1 hq).1; omega
   obtain ⟨a, o, e, _, hc⟩ := h.read h0
   rw [ha] at e; cases e
   cases hq : p.l[j]? with
   | none => rw [hq] at hj; cases hj
   | some b =>
    rw [hq] at hj
    cases hj
    have hjl := (List.getElem?_eq_some_iff.1 hq).1
    rw [Addr.add_lit, hc j hjl, List.getD_eq_getElem?_getD, hq]; rfl)
  rw [List.length_map] at hb
  have e : (⟨ByteArray.empty.data ++ (Lib.bytesOf (p.l.map fun b => (b.toNat : Int))).toArray⟩ : ByteArray) = ⟨p.l.toArray⟩ := by
   apply ByteArray.ext
   show (#[] : Array UInt8) ++ (Lib.bytesOf (p.l.map fun b => (b.toNat : Int))).toArray = p.l.toArray
   rw [Array.empty_append]
   congr 1
   unfold Lib.bytesOf
   rw [List.map_map]
   exact map_back p.l
  rw [e] at hb
  exact hb
theorem run_cmp (w : World) (p q : Pt) {B B' : Nat} (hp : p.In w B) (hq : q.In w B') : (Extern.BytealgCompare.compare #[p.V, q.V]).run Try.prog w = .ok (.int .i64 (Lib.compareBytes p.l q.l)) w := by
 change Sem.run Try.prog (do pure (goInt (Extern.BytealgCompare.cmp (← Extern.Bytes.bytesOf p.V) (← Extern.Bytes.bytesOf q.V)))) w = _
 simp only [Sem.run_bind, Sem.run_pure, run_bytesOf w p hp, run_bytesOf w q hq, Result.andThen]
 rw [Lib.cmp_eq]
 rfl
theorem bcmp_any (p q : Pt) (w : World) {B B' : Nat} (hp : p.In w B) (hq : q.In w B') : Calls Try.prog 134 #[p.V, q.V] w fun e w' => e = .returned (.int .i64 (Lib.compareBytes p.l q.l)) ∧ w = w' := by
 have hr := run_cmp w p q hp hq
 obtain ⟨r, hrr⟩ : ∃ r, r = Lib.compareBytes p.l q.l := ⟨_, rfl⟩
 rw [← hrr] at hr ⊢
 clear hrr hp hq
 unfold Pt.V at *
 generalize p.l.length = n1 at *
 generalize q.l.length = n2 at *
 go_enter Try.func134, Try.ntmps134
 go_wp2
 rw [run_callFunc_extern Try.func145 (by kernel_rfl) (by kernel_rfl) (by kernel_rfl) (e := Extern.BytealgCompare.compare) (by kernel_rfl), hr]
 simp only [Result.andThen]
 rw [Oper.upon_value]
 go_wp2
 go_ret
 exact ⟨rfl, rfl⟩
end Go.Proofs.Ytmjfnpmnhehnkaa
