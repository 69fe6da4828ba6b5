/- rows that are read, cut, appended to, of any element -/
import Derived.Test.YtmjfnpmnhehnkaaFlR
import Derived.ArgAppend
import Derived.Laws.Slices
namespace Go.Proofs.Ytmjfnpmnhehnkaa
open Go.RowKit
/-- n elements that are read, cells ys -/
structure Rd (w : World) (ad : Option Addr) (n sz : Nat) (ys : List Value) : Prop where
  len : ys.length = n * sz
  read : 0 < n → ∃ a o, ad = some ⟨a, o, none⟩ ∧ a < w.heap.size ∧ ∀ j u, ys[j]? = some u → w.cell? ⟨a, o + j, none⟩ = some u
theorem Rd.ext {w w' : World} {ad : Option Addr} {n sz : Nat} {ys : List Value} (h : Rd w ad n sz ys) (k : Ex w w') : Rd w' ad n sz ys := ⟨h.len, fun h0 => by
  obtain ⟨a, o, e, hl, hc⟩ := h.read h0
  exact ⟨a, o, e, Nat.lt_of_lt_of_le hl k.size, fun j u hu => (Below.cell (p := ⟨a, o + j, none⟩) k hl).trans (hc j u hu)⟩⟩
theorem Rd.at {w : World} {ad : Option Addr} {n sz : Nat} {ys : List Value} (h : Rd w ad n sz ys) (A : Addr) (hA : ad = some A) (j : Nat) (u : Value) (hu : ys[j]? = some u) : w.cell? (A.add j) = some u := by
  have h0 : 0 < n := by
    rcases Nat.eq_zero_or_pos n with h0 | h0
    · have := (List.getElem?_eq_some_iff.1 hu).1
      rw [h.len, h0, Nat.zero_mul] at this; omega
    · exact h0
  obtain ⟨a, o, e, hl, hc⟩ := h.read h0
  rw [e] at hA; cases hA
  rw [Addr.add_lit]
  exact hc j u hu
theorem own_rd {w : World} {B : Nat} {e : TypeId} {sz n : Nat} {v : Value} {xs : List Value} (h : w.ownsRow B e sz v n xs) : ∃ ad cap, v = .slice ad n cap ∧ (ad = none → cap = 0) ∧ n ≤ cap ∧ cap ≤ 9223372036854775807 ∧ Rd w ad n sz xs := by
  obtain ⟨h1, ⟨hv, h0⟩ | ⟨g, cap, cur, rfl, hb, hh, hc, hm, hs, ht⟩⟩ := h
  · exact ⟨none, 0, by rw [h0]; exact hv, fun _ => rfl, by omega, by omega, ⟨h1, fun h => by omega⟩⟩
  · refine ⟨some ⟨g, 0, none⟩, cap, rfl, (fun h => by cases h), hc, by simpa [maxLen] using hm, ⟨h1, fun _ => ⟨g, 0, rfl, (show Bk w g e cur from hh).lt, fun j u hu => ?_⟩⟩⟩
    rw [(show Bk w g e cur from hh).cell, Nat.zero_add, ← Array.getElem?_toList]
    rw [← ht, List.getElem?_take] at hu
    split at hu
    · exact hu
    · cases hu
theorem Rd.take {w : World} {ad : Option Addr} {n sz cap : Nat} {ys : List Value} (h : Rd w ad n sz ys) (hnil : ad = none → cap = 0) (hc : n ≤ cap) (k : Nat) (hk : k ≤ n) :
    ∃ ad', sliced ad 0 k cap sz = .slice ad' k cap ∧ (ad' = none → cap = 0) ∧ Rd w ad' k sz (ys.take (k * sz)) := by
  have hl : (ys.take (k * sz)).length = k * sz := by
    rw [List.length_take, h.len]
    exact Nat.min_eq_left (Nat.mul_le_mul_right _ hk)
  cases ad with
  | none =>
    have := hnil rfl
    exact ⟨none, by unfold sliced; simp, fun _ => this, ⟨hl, fun h => by omega⟩⟩
  | some A =>
    by_cases h0 : 0 < k
    · obtain ⟨a, o, e, hla, hr⟩ := h.read (by omega)
      cases e
      refine ⟨some ⟨a, o, none⟩, by unfold sliced; rw [if_neg (by omega), Option.map_some, Nat.zero_mul, Addr.add_lit]; rfl, (fun h => by cases h), ⟨hl, fun _ => ⟨a, o, rfl, hla, fun j u hu => hr j u ?_⟩⟩⟩
      rw [List.getElem?_take] at hu
      split at hu
      · exact hu
      · cases hu
    · obtain rfl : k = 0 := by omega
      refine ⟨_, rfl, fun hn => ?_, ⟨hl, fun h => absurd h (Nat.lt_irrefl 0)⟩⟩
      split at hn <;> simp at hn
theorem Rd.drop {w : World} {ad : Option Addr} {n sz cap : Nat} {ys : List Value} (h : Rd w ad n sz ys) (hnil : ad = none → cap = 0) (hc : n ≤ cap) (k : Nat) (hk : k ≤ n) :
    ∃ ad', sliced ad k n cap sz = .slice ad' (n - k) (cap - k) ∧ (ad' = none → cap - k = 0) ∧ Rd w ad' (n - k) sz (ys.drop (k * sz)) := by
  have hl : (ys.drop (k * sz)).length = (n - k) * sz := by
    rw [List.length_drop, h.len, Nat.sub_mul]
  cases ad with
  | none =>
    have := hnil rfl
    exact ⟨none, by unfold sliced; simp, fun _ => by omega, ⟨hl, fun h => by omega⟩⟩
  | some A =>
    by_cases h0 : k < n
    · obtain ⟨a, o, e, hla, hr⟩ := h.read (by omega)
      cases e
      refine ⟨some ⟨a, o + k * sz, none⟩, by unfold sliced; rw [if_neg (by omega), Option.map_some, Addr.add_lit], (fun h => by cases h), ⟨hl, fun _ => ⟨a, o + k * sz, rfl, hla, fun j u hu => ?_⟩⟩⟩
      rw [List.getElem?_drop] at hu
      rw [Nat.add_assoc]
      exact hr _ u hu
    · obtain rfl : k = n := by omega
      refine ⟨_, rfl, fun hn => ?_, ⟨hl, fun h => by omega⟩⟩
      split at hn <;> simp at hn
section
variable {o : Oper} {a : Act} {w : World} {K : Act → World → Prop} {Q : Exit → Act → World → Prop}
set_option maxRecDepth 100000 in
theorem wp_sl_h (t : TypeId) (x h : Operand) (hop : o.op = .slice t x none (some h) none) (ht : Try.prog.underlying t = some (.slice (Try.prog.elem t))) (sz : Nat) (hs : ∀ w, (sizeOf (Try.prog.elem t)).run Try.prog w = .ok sz w)
    (ad : Option Addr) (n cap k : Nat) (hx : a.eval x = .slice ad n cap) (hh : a.eval h = .int .i64 k) (hk : k ≤ cap) (hK : K (a.put o.dst (sliced ad 0 k cap sz)) w) : o.wp Try.prog a w K Q := by
  have hr := run_slice_h (P := Try.prog) (w := w) t ad n cap ht .i64 (k : Int) (by omega) (by omega)
  rw [hs, Int.toNat_natCast] at hr
  unfold Oper.wp
  obtain ⟨ev, hev⟩ : ∃ ev, ev = a.eval := ⟨_, rfl⟩
  rw [← hev] at hx hh ⊢
  clear hev
  unfold execOp
  simp only [hop]
  simp [hx, hh, go_sem, run_sliceAt_slice (P := Try.prog) _ t _ _ _ _ ht, hr, Result.andThen]
  rw [show sliced ad 0 k cap sz = .slice ad k cap from by simp [sliced, go_sem]] at hK
  exact hK
set_option maxRecDepth 100000 in
theorem wp_sl_l (t : TypeId) (x l : Operand) (hop : o.op = .slice t x (some l) none none) (ht : Try.prog.underlying t = some (.slice (Try.prog.elem t))) (sz : Nat) (hs : ∀ w, (sizeOf (Try.prog.elem t)).run Try.prog w = .ok sz w)
    (ad : Option Addr) (n cap k : Nat) (hx : a.eval x = .slice ad n cap) (hl : a.eval l = .int .i64 k) (hk : k ≤ n) (hK : K (a.put o.dst (sliced ad k n cap sz)) w) : o.wp Try.prog a w K Q := by
  have hr := run_slice_l (P := Try.prog) (w := w) t ad n cap ht .i64 (k : Int) (by omega) (by omega)
  rw [hs, Int.toNat_natCast] at hr
  unfold Oper.wp
  obtain ⟨ev, hev⟩ : ∃ ev, ev = a.eval := ⟨_, rfl⟩
  rw [← hev] at hx hl ⊢
  clear hev
  unfold execOp
  simp only [hop]
  simp [hx, hl, go_sem, run_sliceAt_slice (P := Try.prog) _ t _ _ _ _ ht, hr, Result.andThen]
  exact hK
end
/-- a row without room that has no element -/
def Emp (B : Nat) (w : World) (e : TypeId) (v : Value) : Prop := ∃ g, v = .slice (some ⟨g, 0, none⟩) 0 0 ∧ B ≤ g ∧ Bk w g e #[]
theorem Emp.own {B : Nat} {w : World} {e : TypeId} {v : Value} (h : Emp B w e v) (sz : Nat) : w.ownsRow B e sz v 0 [] := by
  obtain ⟨g, rfl, hB, hb⟩ := h
  exact ⟨by simp, .inr ⟨g, 0, #[], rfl, hB, hb, Nat.le_refl _, by decide, by simp, by simp⟩⟩
def One (w : World) (e : TypeId) (cs : List Value) (v : Value) : Prop := ∃ g, v = .slice (some ⟨g, 0, none⟩) 1 1 ∧ Bk w g e cs.toArray
def Rv.emp {B : Nat} (e : TypeId) : Rv B := ⟨e, fun v w => Emp B w e v, fun _ _ _ _ ⟨g, h1, h2, h3⟩ k hs => ⟨g, h1, h2, k.bk h3 hs⟩⟩
def Rv.one {B : Nat} (e : TypeId) (cs : List Value) : Rv B := ⟨e, fun v w => One w e cs v, fun _ _ _ _ ⟨g, h1, h2⟩ k hs => ⟨g, h1, k.bk h2 hs⟩⟩
theorem One.rd {w : World} {e : TypeId} {cs : List Value} {v : Value} (h : One w e cs v) : ∃ ad, v = .slice ad 1 1 ∧ (ad = none → 1 = 0) ∧ Rd w ad 1 cs.length cs := by
  obtain ⟨g, rfl, hb⟩ := h
  refine ⟨_, rfl, (fun h => by cases h), ⟨by omega, fun _ => ⟨g, 0, rfl, hb.lt, fun j u hu => ?_⟩⟩⟩
  rw [Nat.zero_add, hb.cell]; simpa using hu
section
variable {o : Oper} {a : Act} {w : World} {K : Act → World → Prop} {Q : Exit → Act → World → Prop}
theorem wp_rd (s x : Operand) (t e : TypeId) (z : Value) (sz bytes : Nat)
    (hop : o.op = .call { callee := .builtin .append, args := #[s, x], argTypes := #[t, t] }) (hu : Try.prog.underlying t = some (.slice e))
    (hinfo : (Try.prog.info? e).map (fun i => (i.zero, i.size, i.bytes)) = some (some z, sz, bytes)) (hz : z.cells.size = sz) (hp : 0 < sz)
    (B n : Nat) (v : Value) (xs : List Value) (hs : a.eval s = v) (hown : w.ownsRow B e sz v n xs) (hB : B ≤ w.heap.size)
    (ad : Option Addr) (m c : Nat) (ys : List Value) (hx : a.eval x = .slice ad m c) (hrd : Rd w ad m sz ys) (hc : m ≤ c) (hnil : ad = none → c = 0) (h1 : ∀ u ∈ ys, u.oneCell' = true)
    (hN : n + m ≤ 9223372036854775807) (hby : (n + m) * bytes ≤ 140737488355328)
    (h : ∀ v' w', w'.ownsRow B e sz v' (n + m) (xs ++ ys) → Kt [e] B w w' → K (a.put o.dst v') w') : o.wp Try.prog a w K Q :=
  wp_rapp s x t e z sz bytes hop hu hinfo hz hp B n v xs hs hown hB ad m c ys hx hrd.len (fun hn => by have := hnil hn; exact ⟨this, by omega⟩) hrd.at h1 hN hby fun v' w' r1 r2 _ => h v' w' r1 r2
/-- append to an empty row without room: a new row, no old block is touched -/
theorem wp_rd0 (s x : Operand) (t e : TypeId) (z : Value) (sz bytes : Nat)
    (hop : o.op = .call { callee := .builtin .append, args := #[s, x], argTypes := #[t, t] }) (hu : Try.prog.underlying t = some (.slice e))
    (hinfo : (Try.prog.info? e).map (fun i => (i.zero, i.size, i.bytes)) = some (some z, sz, bytes)) (hz : z.cells.size = sz) (hp : 0 < sz)
    (B : Nat) (v : Value) (hs : a.eval s = v) (hown : Emp B w e v) (hB : B ≤ w.heap.size)
    (ad : Option Addr) (m c : Nat) (ys : List Value) (hx : a.eval x = .slice ad m c) (hrd : Rd w ad m sz ys) (hc : m ≤ c) (hnil : ad = none → c = 0) (h1 : ∀ u ∈ ys, u.oneCell' = true)
    (hN : m ≤ 9223372036854775807) (hby : m * bytes ≤ 140737488355328)
    (h : ∀ v' w', w'.ownsRow B e sz v' m ys → Ex w w' → K (a.put o.dst v') w') : o.wp Try.prog a w K Q := by
  obtain ⟨i0, hi0, hz0, hz1, hz2⟩ := info_parts hinfo
  have ho := hown.own sz
  have key : ∃ v' w', (Builtin.append_ #[t, t] o.type #[v, .slice ad m c]).run Try.prog w = .ok v' w' ∧ w'.ownsRow B e sz v' m ys ∧ Ex w w' := by
    by_cases h0 : 0 < m
    · obtain ⟨b, oo, rfl, _, _⟩ := hrd.read h0
      obtain ⟨g, rfl, hg, hb⟩ := hown
      obtain ⟨v', w', hrun, r1, r2⟩ := run_append_arg_grows (P := Try.prog) w t o.type e i0 z sz bytes hu hi0 hz0 hz1 hz2 hz hp ⟨g, 0, none⟩ 0 0 [] (by simp) (by simp) ⟨b, oo, none⟩ m c ys hrd.len (hrd.at _ rfl) (by omega) (by unfold maxLen; omega) (by rw [Nat.zero_add]; exact hby)
      refine ⟨v', w', hrun, ?_, (Below.refl _ _).grown r2 (Nat.le_refl _) (fun k hk => by cases hk)⟩
      rw [Nat.zero_add, List.nil_append] at r1
      exact ⟨r1.1, r1.2.imp id fun ⟨g, cap, cur, hv, hb, hr⟩ => ⟨g, cap, cur, hv, Nat.le_trans hB hb, hr⟩⟩
    · obtain rfl : m = 0 := by omega
      obtain rfl : ys = [] := List.eq_nil_of_length_eq_zero (by rw [hrd.len, Nat.zero_mul])
      cases ad with
      | none =>
        have := hnil rfl
        subst this
        exact ⟨v, w, run_append_owned_none w B t o.type e i0 sz hu hi0 v 0 [] ho, ho, Ex.refl _⟩
      | some A =>
        obtain ⟨g, rfl, hg, hb⟩ := hown
        refine ⟨.slice (some ⟨g, 0, none⟩) 0 0, w, ?_, ho, Ex.refl _⟩
        simp [Builtin.append_, run_underlying hu, sizeOf, typeInfo, hi0, Builtin.lenOf, Builtin.firstCells, storeCells, loadCells, loadCellsFrom, World.cells?]
  obtain ⟨v', w', hrun, r1, r2⟩ := key
  unfold Oper.wp
  simp [execOp, hop, resolve, invoke, builtin, hs, hx, hrun, Result.andThen]
  exact h v' w' r1 r2
end
theorem rown_less {w : World} {B B' : Nat} {e : TypeId} {sz n : Nat} {v : Value} {xs : List Value} (h : w.ownsRow B e sz v n xs) (k : B' ≤ B) : w.ownsRow B' e sz v n xs :=
  ⟨h.1, h.2.imp id fun ⟨g, cap, cur, hv, hb, hr⟩ => ⟨g, cap, cur, hv, Nat.le_trans k hb, hr⟩⟩
theorem mem_tys {tys : List Nat} {j e : Nat} (h0 : e ≠ 0) (h : tys.getD j 0 ∈ [e]) : j ∈ (List.range tys.length).filter (fun j => tys.getD j 0 == e) := by
  rw [List.mem_singleton] at h
  rw [List.mem_filter, List.mem_range]
  refine ⟨?_, by rw [h]; exact beq_self_eq_true e⟩
  rcases Nat.lt_or_ge j tys.length with hj | hj
  · exact hj
  · rw [List.getD_eq_getElem?_getD, List.getElem?_eq_none hj] at h
    exact absurd h.symm h0
end Go.Proofs.Ytmjfnpmnhehnkaa
