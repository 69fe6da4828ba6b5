/- what TableOrder stands on -/
import Derived.Test.YtedljddjmojeeaaTp
import Derived.Test.YtedljddjmojeeaaTr
import Derived.Test.YtedljddjmojeeaaMa
namespace Go.Proofs.Ytedljddjmojeeaa
open Go.RowKit
def IIn (ad : Option Addr) (m : Nat) (Z : Nat → Int) (w : World) : Prop := m ≤ 9223372036854775807 ∧ (∀ i, i < m → -9223372036854775808 ≤ Z i ∧ Z i ≤ 9223372036854775807) ∧ (0 < m → ∃ a o, ad = some ⟨a, o, none⟩ ∧ a < w.heap.size ∧ ∀ i, i < m → w.cell? ⟨a, o + i, none⟩ = some (.int .i64 (Z i)))
structure Sa where
  holds : Value → World → Prop
  stab : ∀ v w w', holds v w → Ex w w' → holds v w'
def Sa.is (x : Value) : Sa := ⟨fun v _ => v = x, fun _ _ _ h _ => h⟩
def Sa.any : Sa := ⟨fun _ _ => True, fun _ _ _ h _ => h⟩
def saPhi (T : List Sa) (i : Nat) (v : Value) (w : World) : Prop := (T.getD i .any).holds v w
theorem saPhi_stable (T : List Sa) (i : Nat) (v : Value) (w w' : World) (h : saPhi T i v w) (k : Ex w w') : saPhi T i v w' := (T.getD i .any).stab v w w' h k
def Sa.vt : Sa := ⟨fun v w => ∃ z : Vt, v = z.V ∧ TVN w z ∧ z.id = [] ∧ z.ct.right = true, fun _ _ _ ⟨z, h1, h2, h3⟩ k => ⟨z, h1, h2.ext k, h3⟩⟩
def Sa.kv (id : List UInt8) : Sa := ⟨fun v w => ∃ z : Vt, v = z.V ∧ TVN w z ∧ z.id = id ∧ z.ct.right = true, fun _ _ _ ⟨z, h1, h2, h3⟩ k => ⟨z, h1, h2.ext k, h3⟩⟩
def Sa.pz (B : Nat) : Sa := ⟨fun v w => ∃ g, v = .pointer (some ⟨g, 0, none⟩) ∧ B ≤ g ∧ VB w g zeroVt, fun _ _ _ ⟨g, h1, h2, h3⟩ k => ⟨g, h1, h2, h3.ext k⟩⟩
theorem TB.kt {B : Nat} {w w' : World} {D : Nat} {rv : Value} {vs : List Vt} (h : TB w D rv vs) (k : Kt [] B w w') : TB w' D rv vs :=
  ⟨k.bk h.blk (by simp), ⟨k.row h.row.row (by simp), fun i x hx => (h.row.ins i x hx).kt k (by simp)⟩, h.len, h.srt⟩
theorem MB.gkt {w w' : World} {b B : Nat} {ps : List (List UInt8 × Vt)} (h : MB w b ps) (k : w.grownBy w' (some b)) (hB : B ≤ b) : Kt [] B w w' := by
  have hlt := h.lt
  refine ⟨⟨k.os, k.tape, k.output, k.size, fun i hi => k.block i (by omega) (fun e => by cases e; omega)⟩, fun i cs t fr hi _ => (k.block i (blk_lt hi) (fun e => ?_)).trans hi⟩
  cases e
  obtain ⟨es, c, h1, _⟩ := h.ex
  rw [h1] at hi; cases hi
theorem MB.tc {w w' : World} {b D : Nat} {rv : Value} {vs : List Vt} {ps : List (List UInt8 × Vt)} (h : MB w b ps) (ht : TB w D rv vs) (k : Tc D rv.ownBlock w w') : MB w' b ps := by
  obtain ⟨es, c, h1, _⟩ := h.ex
  refine h.ext (k.block b h.lt (fun e => ?_) (fun e => ?_))
  · subst e
    have h2 := ht.blk
    unfold Bk at h2
    rw [h1] at h2; cases h2
  · rcases ht.row.blk with e2 | ⟨g, e2, _, _, cs, h2⟩
    · rw [e2] at e; cases e
    · rw [e2] at e; cases e
      unfold Bk at h2
      rw [h1] at h2; cases h2
theorem TVN.tcb {w w' : World} {D : Nat} {rv : Value} {vs : List Vt} {x : Vt} (h : TVN w x) (ht : TB w D rv vs) (k : Tc D rv.ownBlock w w') : TVN w' x := by
  rcases ht.row.blk with e | ⟨gb, e, _, _, hb⟩
  · exact h.tc (gb := 0) k ht.blk (Or.inl e)
  · exact h.tc k ht.blk (Or.inr ⟨e, hb⟩)
/-- a table beside a map that has the same -/
structure OS (w wr : World) (D : Nat) (rv : Value) (vs : List Vt) (b : Nat) (ps : List (List UInt8 × Vt)) : Prop where
  tb : TB wr D rv vs
  mb : MB wr b ps
  mel : ∀ p, p ∈ ps → TVN wr p.2
  len : vs.length = ps.length
  aa : ∀ y, y ∈ vs → ∃ v, (y.id, v) ∈ ps ∧ v.ct = y.ct
  bb : ∀ p, p ∈ ps → ∃ y, y ∈ vs ∧ y.id = p.1
  uu : ∀ y, y ∈ vs → ∃ u : Nat, u ≤ 3 ∧ idn y.id = u * 16777216
  lo : w.heap.size ≤ D
  lob : w.heap.size ≤ b
  ex : Ex w wr
theorem OS.ext {w wr w' : World} {D b : Nat} {rv : Value} {vs : List Vt} {ps : List (List UInt8 × Vt)} (h : OS w wr D rv vs b ps) (k : Ex wr w') : OS w w' D rv vs b ps :=
  ⟨h.tb.ext k, h.mb.ext (k.block b h.mb.lt), fun p hp => (h.mel p hp).ext k, h.len, h.aa, h.bb, h.uu, h.lo, h.lob, Ex.trans h.ex k⟩
theorem mem_idx {vs : List Vt} {y : Vt} (h : y ∈ vs) : ∃ i : Nat, vs[i]? = some y := by
  obtain ⟨i, hi, e⟩ := List.getElem_of_mem h
  exact ⟨i, by rw [List.getElem?_eq_getElem hi, e]⟩
theorem TB.ok {w : World} {D : Nat} {rv : Value} {vs : List Vt} (h : TB w D rv vs) {y : Vt} (hy : y ∈ vs) : y.Ok := (h.row.mem hy).ok
structure Stp (vs vs' : List Vt) (ps : List (List UInt8 × Vt)) (x : Vt) : Prop where
  len : ((∃ p, p ∈ ps ∧ p.1 = x.id) ∧ vs'.length = vs.length) ∨ ((∀ p, p ∈ ps → p.1 ≠ x.id) ∧ vs'.length = vs.length + 1)
  mem : ∀ y, y ∈ vs' → (y.ct = x.ct) ∨ (y ∈ vs ∧ y.id ≠ x.id)
  new : ∃ y, y ∈ vs' ∧ y.id = x.id
  old : ∀ y, y ∈ vs → y.id ≠ x.id → y ∈ vs'
theorem OS.step {w wr w' : World} {D b u : Nat} {rv : Value} {vs : List Vt} {ps : List (List UInt8 × Vt)} {x : Vt} {e : Ending} (h : OS w wr D rv vs b ps) (hx : x.Ok) (hr : x.ct.right = true) (hu3 : u ≤ 3) (hu : idn x.id = u * 16777216) (hp : PutPost D rv vs x wr e w') :
    e = .returned (.int .i64 0) ∧ ∃ rv' vs', TB w' D rv' vs' ∧ Tc D rv.ownBlock wr w' ∧ Stp vs vs' ps x := by
  have hidx : ∀ (i : Nat) (y : Vt), vs[i]? = some y → idF vs i = idn y.id := fun i y hy => idF_at vs i y hy
  rcases hp with ⟨h1, _⟩ | ⟨_, p, ⟨hb1, hb2, hb3⟩, ⟨z, hp, hf, rfl, hz, ht, htc⟩ | ⟨hno, h4, _⟩ | ⟨z, rv', hno, h4, rfl, hz, ht, htc, _⟩⟩
  · rw [hr] at h1; cases h1
  · have hpe : vs[p]? = some vs[p] := List.getElem?_eq_getElem hp
    have hpid : vs[p].id = x.id := idn_inj (h.tb.ok (List.getElem_mem hp)).idN hx.idN ((hidx p _ hpe).symm.trans hf)
    refine ⟨rfl, rv, vs.set p z, ht, htc, ⟨Or.inl ⟨?_, by simp⟩, fun y hy => ?_, ⟨z, List.mem_iff_getElem.2 ⟨p, by rw [List.length_set]; exact hp, List.getElem_set_self _⟩, ct_id hz⟩, fun y hy hne => ?_⟩⟩
    · obtain ⟨v, hv, _⟩ := h.aa _ (List.getElem_mem hp)
      exact ⟨_, hv, hpid⟩
    · obtain ⟨i, hi⟩ := mem_idx hy
      by_cases hip : p = i
      · subst hip
        rw [List.getElem?_set_self hp] at hi
        cases hi; exact Or.inl hz
      · rw [List.getElem?_set_ne hip] at hi
        refine Or.inr ⟨List.mem_of_getElem? hi, fun e => ?_⟩
        have e1 : idF vs i = idF vs p := by rw [hidx i y hi, hf, e]
        have hil := (List.getElem?_eq_some_iff.1 hi).1
        rcases Nat.lt_or_gt_of_ne hip with h2 | h2
        · have := h.tb.srt p i h2 hil; omega
        · have := h.tb.srt i p h2 hp; omega
    · obtain ⟨i, hi⟩ := mem_idx hy
      have hip : p ≠ i := by
        rintro rfl
        rw [hpe] at hi; cases hi
        exact hne hpid
      exact List.mem_of_getElem? (i := i) (by rw [List.getElem?_set_ne hip]; exact hi)
  · exfalso
    have hg : ∀ i, i < 4 → ∃ ui : Nat, ui ≤ 3 ∧ idF vs i = ui * 16777216 := fun i hi => by
      have hy : vs[i]? = some (vs[i]'(by omega)) := List.getElem?_eq_getElem (by omega)
      obtain ⟨ui, h1, h2⟩ := h.uu _ (List.mem_of_getElem? hy)
      exact ⟨ui, h1, (hidx i _ hy).trans h2⟩
    obtain ⟨u0, g0, f0⟩ := hg 0 (by decide)
    obtain ⟨u1, g1, f1⟩ := hg 1 (by decide)
    obtain ⟨u2, g2, f2⟩ := hg 2 (by decide)
    obtain ⟨u3, g3, f3⟩ := hg 3 (by decide)
    have s1 := h.tb.srt 0 1 (by decide) (by omega)
    have s2 := h.tb.srt 1 2 (by decide) (by omega)
    have s3 := h.tb.srt 2 3 (by decide) (by omega)
    rw [f0, f1] at s1
    rw [f1, f2] at s2
    rw [f2, f3] at s3
    refine hno ⟨u, by omega, ?_⟩
    rw [hu]
    rcases (show u = 0 ∨ u = 1 ∨ u = 2 ∨ u = 3 by omega) with rfl | rfl | rfl | rfl
    · rw [f0]; omega
    · rw [f1]; omega
    · rw [f2]; omega
    · rw [f3]; omega
  · have hne : ∀ y, y ∈ vs → y.id ≠ x.id := fun y hy e => by
      obtain ⟨i, hi⟩ := mem_idx hy
      exact hno ⟨i, (List.getElem?_eq_some_iff.1 hi).1, by rw [hidx i y hi, e]⟩
    refine ⟨rfl, rv', _, ht, htc, ⟨Or.inr ⟨fun q hq e => ?_, by simp; omega⟩, fun y hy => ?_, ⟨z, by simp, ct_id hz⟩, fun y hy _ => ?_⟩⟩
    · obtain ⟨y, hy, hye⟩ := h.bb q hq
      exact hne y hy (hye.trans e)
    · rcases List.mem_append.1 hy with hm | hm
      · exact Or.inr ⟨List.mem_of_mem_take hm, hne y (List.mem_of_mem_take hm)⟩
      · rcases List.mem_cons.1 hm with rfl | hm
        · exact Or.inl hz
        · exact Or.inr ⟨List.mem_of_mem_drop hm, hne y (List.mem_of_mem_drop hm)⟩
    · rw [← List.take_append_drop p vs] at hy
      rcases List.mem_append.1 hy with hm | hm
      · exact List.mem_append.2 (Or.inl hm)
      · exact List.mem_append.2 (Or.inr (List.mem_cons_of_mem _ hm))
theorem OS.upd {w wr w' w2 : World} {D b u : Nat} {rv rv' : Value} {vs vs' : List Vt} {ps ps' : List (List UInt8 × Vt)} {x : Vt} (h : OS w wr D rv vs b ps) (hx : TVN w' x) (hu3 : u ≤ 3) (hu : idn x.id = u * 16777216) (ht : TB w' D rv' vs') (htc : Tc D rv.ownBlock wr w') (hs : Stp vs vs' ps x)
    (hm : MB w2 b ps') (hg : w'.grownBy w2 (some b)) (hmem : ∀ p, p ∈ ps' ↔ p = (x.id, x) ∨ (p ∈ ps ∧ p.1 ≠ x.id)) (hlen : ((∃ p, p ∈ ps ∧ p.1 = x.id) ∧ ps'.length = ps.length) ∨ ((∀ p, p ∈ ps → p.1 ≠ x.id) ∧ ps'.length = ps.length + 1)) : OS w w2 D rv' vs' b ps' := by
  have hmb := h.mb.tc h.tb htc
  have kt : Kt [] w.heap.size w' w2 := hmb.gkt hg h.lob
  refine ⟨ht.kt kt, hm, fun p hp => ?_, ?_, fun y hy => ?_, fun p hp => ?_, fun y hy => ?_, h.lo, h.lob, Below.trans (htc.ex2 h.tb h.ex h.lo) kt.below⟩
  · rcases (hmem p).1 hp with rfl | ⟨h1, _⟩
    · exact hx.kt kt (by simp)
    · exact ((h.mel p h1).tcb h.tb htc).kt kt (by simp)
  · have := h.len
    rcases hs.len with ⟨⟨p, h1, h2⟩, h3⟩ | ⟨h1, h3⟩
    · rcases hlen with ⟨_, h4⟩ | ⟨h4, _⟩
      · omega
      · exact absurd h2 (h4 p h1)
    · rcases hlen with ⟨⟨p, h4, h5⟩, _⟩ | ⟨_, h4⟩
      · exact absurd h5 (h1 p h4)
      · omega
  · rcases hs.mem y hy with h1 | ⟨h1, h2⟩
    · exact ⟨x, (hmem _).2 (Or.inl (by rw [ct_id h1])), h1.symm⟩
    · obtain ⟨v, h3, h4⟩ := h.aa y h1
      exact ⟨v, (hmem _).2 (Or.inr ⟨h3, h2⟩), h4⟩
  · rcases (hmem p).1 hp with rfl | ⟨h1, h2⟩
    · exact hs.new
    · obtain ⟨y, h3, h4⟩ := h.bb p h1
      exact ⟨y, hs.old y h3 (by rw [h4]; exact h2), h4⟩
  · rcases hs.mem y hy with h1 | ⟨h1, _⟩
    · exact ⟨u, hu3, by rw [ct_id h1]; exact hu⟩
    · exact h.uu y h1
theorem idn_u (u : UInt8) (h : u.toNat ≤ 3) : idn [u, 0, 0, 0] = u.toNat * 16777216 := by
  unfold idn; simp
end Go.Proofs.Ytedljddjmojeeaa
