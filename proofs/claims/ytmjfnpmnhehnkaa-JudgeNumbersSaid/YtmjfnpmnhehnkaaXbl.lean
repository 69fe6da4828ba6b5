/- Jq -/
import Derived.Test.YtmjfnpmnhehnkaaXbk
namespace Go.Proofs.Ytmjfnpmnhehnkaa
open Go.RowKit
theorem part_ld {o : Oper} {a : Act} {w : World} {K : Act → World → Prop} {Q : Exit → Act → World → Prop} {C : List Value} (ty : TypeId) (ds : List Value) (dd : TypeDesc) (y : Operand) (g off k : Nat) (ho : o.op = .load ty y) (ha : a.eval y = .pointer (some ⟨g, off + k, none⟩)) (h : w.rangeAt g off C) (hd : (C.drop k).take ds.length = ds)
  (hu : Try.prog.underlying ty = some dd) (hr : dd.isRow = true) (hs : (Try.prog.info? ty).map (·.size) = some ds.length) (hk : K (a.put o.dst (.agg ds.toArray)) w) : o.wp Try.prog a w K Q := by
 refine wp_load_mid ty y ho g (off + k) ha ds dd (fun j u hu => ?_) hu hr hs hk
 have hj := (List.getElem?_eq_some_iff.1 hu).1
 have e := congrArg (fun l : List Value => l[j]?) hd
 simp only [List.getElem?_take, List.getElem?_drop] at e
 rw [if_pos hj] at e
 have h1 := h (k + j) u (e.trans hu)
 rw [← Nat.add_assoc] at h1; exact h1
section
variable {o : Oper} {a : Act} {w : World} {K : Act → World → Prop} {Q : Exit → Act → World → Prop}
theorem ld_dqr (y : Operand) (g off : Nat) (x : Dt) (hx : x.q.Ok) (ho : o.op = .load 86 y) (ha : a.eval y = .pointer (some ⟨g, off + 1, none⟩)) (h : w.rangeAt g off x.C) (hk : K (a.put o.dst x.q.V) w) : o.wp Try.prog a w K Q := by
 obtain ⟨dd, hd⟩ : ∃ d, Try.prog.underlying 86 = some d ∧ d.isRow = true := ⟨_, Try.underlying86, rfl⟩
 exact part_ld 86 x.q.C dd y g off 1 ho ha h Dt.q_at hd.1 hd.2 (by rw [Try.sizeQt, Qt.len hx]) hk
theorem ld_dpr (y : Operand) (g off : Nat) (x : Dt) (hx : x.q.Ok) (hr : x.r.Ok) (ho : o.op = .load 83 y) (ha : a.eval y = .pointer (some ⟨g, off + 58, none⟩)) (h : w.rangeAt g off x.C) (hk : K (a.put o.dst x.r.V) w) : o.wp Try.prog a w K Q := by
 obtain ⟨dd, hd⟩ : ∃ d, Try.prog.underlying 83 = some d ∧ d.isRow = true := ⟨_, Try.underlying83, rfl⟩
 exact part_ld 83 x.r.C dd y g off 58 ho ha h (Dt.r_at hx) hd.1 hd.2 (by rw [Try.sizeRt, Rt.len hr]) hk
end
theorem pstep_right {xs xs' : List Vt} {q : Qc} {y : Rc} (hr : ∀ x ∈ xs, x.ct.right = true) (h : PStep xs q y xs') : ∀ x ∈ xs', x.ct.right = true := by
 rcases h with ⟨_, _, rfl⟩ | ⟨hq, x, k, _, hk, ⟨_, _, rfl⟩ | ⟨_, _, _, _, rfl⟩ | ⟨hc, _, z, hz, h⟩⟩
 ·exact hr
 ·exact hr
 ·exact hr
 have hz2 : z.ct.right = true := by rw [hz]; exact (doC_changed hq hk hc).1
 rcases h with ⟨_, _, rfl⟩ | ⟨j, _, _, rfl⟩
 ·intro a ha
  rcases List.mem_append.1 ha with ha | ha
  ·exact hr a ha
  rw [List.mem_singleton.1 ha]; exact hz2
 intro a ha
 rcases List.mem_or_eq_of_mem_set ha with ha | rfl
 ·exact hr a ha
 exact hz2
structure ChainK (l : List Dt) (X : Nat → List Vt) (Y : Nat → Rc) (k : Nat) : Prop where
 zero : X 0 = []
 step : ∀ (i : Nat) (x : Dt), i < k → l[i]? = some x → PStep (X i) x.q.ct (Y i) (X (i + 1))
theorem ChainK.chain {l : List Dt} {X : Nat → List Vt} {Y : Nat → Rc} (h : ChainK l X Y l.length) : Chain l X Y := ⟨h.zero, fun k x hx => h.step k x (List.getElem?_eq_some_iff.1 hx).1 hx⟩
theorem ChainK.next {l : List Dt} {X : Nat → List Vt} {Y : Nat → Rc} {k : Nat} (h : ChainK l X Y k) {x : Dt} (hx : l[k]? = some x) {xs : List Vt} (hX : X k = xs) {y : Rc} {xs' : List Vt} (hs : PStep xs x.q.ct y xs') : ∃ X' Y', ChainK l X' Y' (k + 1) ∧ X' (k + 1) = xs' ∧ Y' k = y ∧ ∀ i, i < k → Y' i = Y i := by
 refine ⟨fun i => if i = k + 1 then xs' else X i, fun i => if i = k then y else Y i, ⟨by rw [if_neg (by omega)]; exact h.zero, fun i z hi hz => ?_⟩, if_pos rfl, if_pos rfl, fun i hi => if_neg (by omega)⟩
 rcases Nat.lt_or_ge i k with h1 | h1
 ·rw [if_neg (by omega), if_neg (by omega), if_neg (by omega)]
  exact h.step i z h1 hz
 obtain rfl : i = k := by omega
 rw [hx] at hz; cases hz
 rw [if_neg (by omega), if_pos rfl, if_pos rfl, hX]
 exact hs
def FirstK (l : List Dt) (Y : Nat → Rc) (k : Nat) (n : Int) : Prop := (n = -1 ∧ Good l Y k) ∨ ∃ (i : Nat) (x : Dt), n = (i : Int) ∧ i < k ∧ l[i]? = some x ∧ Y i ≠ x.r.ct ∧ Good l Y i
theorem FirstK.bad {l : List Dt} {Y : Nat → Rc} {n : Int} (h : FirstK l Y l.length n) : FirstBad l Y n := by
 rcases h with h | ⟨i, x, a, _, b, c, d⟩
 ·exact Or.inl h
 exact Or.inr ⟨i, x, a, b, c, d⟩
theorem Good.same {l : List Dt} {Y Y' : Nat → Rc} {k i : Nat} (h : Good l Y i) (hi : i ≤ k) (e : ∀ j, j < k → Y' j = Y j) : Good l Y' i := fun j x hj hx => (e j (by omega)).trans (h j x hj hx)
theorem FirstK.keep {l : List Dt} {Y Y' : Nat → Rc} {k : Nat} {n : Int} (h : FirstK l Y k n) (hn : 0 ≤ n) (e : ∀ j, j < k → Y' j = Y j) : FirstK l Y' (k + 1) n := by
 rcases h with ⟨h, _⟩ | ⟨i, x, a, b, c, d, f⟩
 ·omega
 exact Or.inr ⟨i, x, a, by omega, c, by rw [e i b]; exact d, f.same (by omega) e⟩
theorem FirstK.good {l : List Dt} {Y Y' : Nat → Rc} {k : Nat} (h : FirstK l Y k (-1)) (e : ∀ j, j < k → Y' j = Y j) {x : Dt} (hx : l[k]? = some x) (hy : Y' k = x.r.ct) : FirstK l Y' (k + 1) (-1) := by
 rcases h with ⟨_, h⟩ | ⟨i, x, a, _⟩
 ·exact Or.inl ⟨rfl, (h.same (Nat.le_refl _) e).next hx hy⟩
 omega
theorem FirstK.found {l : List Dt} {Y Y' : Nat → Rc} {k : Nat} (h : FirstK l Y k (-1)) (e : ∀ j, j < k → Y' j = Y j) {x : Dt} (hx : l[k]? = some x) (hy : Y' k ≠ x.r.ct) : FirstK l Y' (k + 1) (k : Int) := by
 rcases h with ⟨_, h⟩ | ⟨i, x, a, _⟩
 ·exact Or.inr ⟨k, x, rfl, by omega, hx, hy, h.same (Nat.le_refl _) e⟩
 omega
theorem FirstBad.uniq {l : List Dt} {Y : Nat → Rc} {m n : Int} (h : FirstBad l Y m) (k : FirstBad l Y n) : m = n := by
 rcases h with ⟨rfl, h⟩ | ⟨i, x, rfl, h1, h2, h3⟩
 ·rcases k with ⟨rfl, _⟩ | ⟨j, y, rfl, k1, k2, k3⟩
  ·rfl
  exact absurd (h j y (List.getElem?_eq_some_iff.1 k1).1 k1) k2
 rcases k with ⟨rfl, k⟩ | ⟨j, y, rfl, k1, k2, k3⟩
 ·exact absurd (k i x (List.getElem?_eq_some_iff.1 h1).1 h1) h2
 rcases Nat.lt_trichotomy i j with a | rfl | a
 ·exact absurd (k3 i x a h1) h2
 ·rfl
 exact absurd (h3 j y a k1) k2
theorem PStep.len9 {xs xs' : List Vt} {q : Qc} {y : Rc} (h : PStep xs q y xs') : xs'.length ≤ xs.length + 1 := h.len.2
theorem built_pl : Try.prog.built 147 [] = some #[.slice none 0 0] := by kernel_rfl
theorem K.PB.start {w0 w : World} {P : Nat} (lo : w0.heap.size ≤ P) (hs : w0.heap.size ≤ w.heap.size) (hb : Bk w P 147 #[.slice none 0 0]) : K.PB w0 w P (.slice none 0 0) [] := ⟨hb, World.ownsRow_nil _ _ _ _, fun i x hx => by simp at hx, lo, hs⟩
end Go.Proofs.Ytmjfnpmnhehnkaa
