/- Rj, Rl -/
import Derived.Test.YtmjfnpmnhehnkaaXbm
namespace Go.Proofs.Ytmjfnpmnhehnkaa
open Go.RowKit
/-- a state's own blocks alone are others -/
structure SFr (M : Nat) (D : Nat → Nat) (r : Nat → Value) (w w' : World) : Prop where
  os : w'.os = w.os
  tape : w'.tape = w.tape
  output : w'.output = w.output
  size : w.heap.size ≤ w'.heap.size
  block : ∀ k, k < w.heap.size → k ≠ M → (∀ i, i < 16 → k ≠ D i ∧ some k ≠ (r i).ownBlock) → w'.heap[k]? = w.heap[k]?
theorem Ex.sfr {w w' : World} (M : Nat) (D : Nat → Nat) (r : Nat → Value) (h : Ex w w') : SFr M D r w w' := ⟨h.os, h.tape, h.output, Below.size h, fun k hk _ _ => h.block k hk⟩
theorem Tc.sfr {w w' : World} {M s : Nat} {D : Nat → Nat} {r : Nat → Value} (hs : s < 16) (h : Tc (D s) (r s).ownBlock w w') : SFr M D r w w' := ⟨h.os, h.tape, h.output, h.size, fun k hk _ hd => h.block k hk (hd s hs).1 (hd s hs).2⟩
theorem Md.sfr {w w' : World} {M : Nat} {D : Nat → Nat} {r : Nat → Value} (h : Md M w w') : SFr M D r w w' := by
  have hb := h.below 0 (Nat.zero_le _) w (Below.refl 0 w)
  exact ⟨hb.os, hb.tape, hb.output, h.size, fun k hk hm _ => h.other k hm hk⟩
theorem Md2.sfr {w w' : World} {M s : Nat} {D : Nat → Nat} {r : Nat → Value} (hs : s < 16) (h : Md2 M (D s) w w') : SFr M D r w w' := by
  obtain ⟨wm, h1, h2⟩ := h
  have b1 := h1.below 0 (Nat.zero_le _) w (Below.refl 0 w)
  have b2 := h2.below 0 (Nat.zero_le _) wm (Below.refl 0 wm)
  exact ⟨b2.os.trans b1.os, b2.tape.trans b1.tape, b2.output.trans b1.output, Nat.le_trans h1.size h2.size, fun k hk hm hd => (h2.other k (hd s hs).1 (Nat.lt_of_lt_of_le hk h1.size)).trans (h1.other k hm hk)⟩
section
variable {w0 w w' : World} {B M : Nat} {m n : Int} {p : Nat → Pa} {D : Nat → Nat} {r : Nat → Value} {v : Nat → List Vt}
theorem SFr.typ (k : SFr M D r w w') (h : SS w B M m n p D r v) {g : Nat} {t : TypeId} {cs : Array Value} (hb : Bk w g t cs) (h1 : t ≠ 115) (h2 : t ≠ 169) (h3 : t ≠ 36) : Bk w' g t cs := by
  refine (k.block g hb.lt (fun e => ?_) (fun i hi => ⟨fun e => ?_, fun e => ?_⟩)).trans hb
  · subst e; exact h1 (Bk.ty hb h.blk)
  · subst e; exact h2 (Bk.ty hb (h.ts.tb i hi).blk)
  rcases (h.ts.tb i hi).row.blk with h4 | ⟨gb, h4, _, _, cs2, hb2⟩
  · rw [h4] at e; cases e
  rw [h4] at e; cases e; exact h3 (Bk.ty hb hb2)
theorem SFr.pn (k : SFr M D r w w') (h : SS w B M m n p D r v) {p9 : Pt} {B9 : Nat} (hp : PN w B9 p9) : PN w' B9 p9 := by
  refine ⟨⟨hp.1.cap, hp.1.nil, fun h0 => ?_⟩, fun a e => ⟨(hp.2 a e).1, (hp.2 a e).2.elim fun cs hc => ⟨cs, k.typ h hc (by decide) (by decide) (by decide)⟩⟩⟩
  obtain ⟨a, o, e, hB, hc⟩ := hp.1.read h0
  obtain ⟨_, cs, hb⟩ := hp.2 _ e
  have hb' := k.typ h hb (by decide) (by decide) (by decide)
  refine ⟨a, o, e, Nat.lt_of_lt_of_le hB k.size, fun i hi => ?_⟩
  rw [← hc i hi]
  unfold Bk at hb hb'
  simp only [World.cell?, hb', hb]
theorem SFr.tvn (k : SFr M D r w w') (h : SS w B M m n p D r v) {x : Vt} (hx : TVN w x) : TVN w' x := ⟨hx.ok, k.pn h hx.sec, hx.len⟩
theorem SFr.below (k : SFr M D r w w') (h : SS w B M m n p D r v) (hM : w0.heap.size ≤ M) (hB : w0.heap.size ≤ B) (hw : w0.heap.size ≤ w.heap.size) : Below w0.heap.size w w' :=
  ⟨k.os, k.tape, k.output, k.size, fun i hi => k.block i (by omega) (by omega) (fun j hj => by
    have h1 := h.ts.lo j hj
    refine ⟨by omega, fun e => ?_⟩
    have := ((h.ts.tb j hj).row.row.lt i e.symm).1
    omega)⟩
theorem SFr.ex (k : SFr M D r w w') (h : SS w B M m n p D r v) (hM : w0.heap.size ≤ M) (hB : w0.heap.size ≤ B) (hx : Ex w0 w) : Ex w0 w' := Below.trans hx (k.below h hM hB (Below.size hx))
theorem SFr.vblk (k : SFr M D r w w') (h : SS w B M m n p D r v) {g : Nat} {cs : Array Value} (hb : Bk w g 36 cs) (hd : ∀ i, i < 16 → some g ≠ (r i).ownBlock) : Bk w' g 36 cs := by
  refine (k.block g hb.lt (fun e => ?_) (fun i hi => ⟨fun e => ?_, hd i hi⟩)).trans hb
  · subst e; exact absurd (Bk.ty hb h.blk) (by decide)
  subst e; exact absurd (Bk.ty hb (h.ts.tb i hi).blk) (by decide)
theorem SFr.own (k : SFr M D r w w') (h : SS w B M m n p D r v) {B9 : Nat} {y : Value} {sz nn : Nat} {L : List Value} (hr : w.ownsRow B9 36 sz y nn L) (hd : ∀ i, i < 16 → Djn y (r i)) : w'.ownsRow B9 36 sz y nn L :=
  ⟨hr.1, hr.2.imp id fun ⟨g, cap, cur, hv, hB, hg, hrest⟩ => ⟨g, cap, cur, hv, hB, k.vblk h hg (fun i hi e => hd i hi g (by rw [hv]; rfl) e.symm), hrest⟩⟩
theorem SFr.row (k : SFr M D r w w') (h : SS w B M m n p D r v) {B9 : Nat} {y : Value} {xs : List Vt} (hr : VRow w B9 y xs) (hd : ∀ i, i < 16 → Djn y (r i)) : VRow w' B9 y xs := ⟨k.own h hr.row hd, fun i x hx => k.tvn h (hr.ins i x hx)⟩
theorem SFr.rw (k : SFr M D r w w') (h : SS w B M m n p D r v) (hM : w0.heap.size ≤ M) (hB : w0.heap.size ≤ B) (hw : w0.heap.size ≤ w.heap.size) {y : Value} {xs : List Vt} (hr : RW w0 w y xs) (hd : ∀ i, i < 16 → Djn y (r i)) : RW w0 w' y xs :=
  ⟨k.own h hr.row hd, fun i x hx => ⟨(hr.ins i x hx).ok, (by
    rcases (hr.ins i x hx).sec with h1 | h1
    · exact Or.inl (h1.keep (k.below h hM hB hw))
    · exact Or.inr (k.pn h h1)), (hr.ins i x hx).len⟩⟩
theorem SFr.rs (k : SFr M D r w w') (h : SS w B M m n p D r v) (hM : w0.heap.size ≤ M) (hB : w0.heap.size ≤ B) {M2 : Nat} {m2 n2 : Int} {p2 : Nat → Pa} {R : Nat → Value} {xs : Nat → List Vt} (hr : RS w0 w M2 m2 n2 p2 R xs) (hd : ∀ j, j < 16 → ∀ i, i < 16 → Djn (R j) (r i)) : RS w0 w' M2 m2 n2 p2 R xs :=
  ⟨k.typ h hr.blk (by decide) (by decide) (by decide), fun j hj => k.rw h hM hB hr.sz (hr.rw j hj) (hd j hj), hr.ok, hr.mok, hr.lo, Nat.le_trans hr.sz k.size⟩
theorem SFr.ss (k : SFr M D r w w') (h : SS w B M m n p D r v) {B2 M2 : Nat} {m2 n2 : Int} {p2 : Nat → Pa} {D2 : Nat → Nat} {r2 : Nat → Value} {v2 : Nat → List Vt} (h2 : SS w B2 M2 m2 n2 p2 D2 r2 v2) (hne : M ≠ M2) (ha : Apart D r D2 r2) : SS w' B2 M2 m2 n2 p2 D2 r2 v2 := by
  refine ⟨?_, ⟨fun j hj => ⟨?_, ?_, (h2.ts.tb j hj).len, (h2.ts.tb j hj).srt⟩, h2.ts.lo, h2.ts.dd, h2.ts.rr⟩, h2.ok, h2.mok⟩
  · refine (k.block M2 h2.blk.lt (Ne.symm hne) (fun i hi => ⟨fun e => ?_, fun e => ?_⟩)).trans h2.blk
    · have h3 := h2.blk; rw [e] at h3; exact absurd (Bk.ty h3 (h.ts.tb i hi).blk) (by decide)
    rcases (h.ts.tb i hi).row.blk with h4 | ⟨gb, h4, _, _, cs2, hb2⟩
    · rw [h4] at e; cases e
    rw [h4] at e; cases e; exact absurd (Bk.ty h2.blk hb2) (by decide)
  · have hb := (h2.ts.tb j hj).blk
    refine (k.block (D2 j) hb.lt (fun e => ?_) (fun i hi => ⟨fun e => ha.dd i j hi hj e.symm, fun e => ?_⟩)).trans hb
    · rw [e] at hb; exact absurd (Bk.ty hb h.blk) (by decide)
    rcases (h.ts.tb i hi).row.blk with h4 | ⟨gb, h4, _, _, cs2, hb2⟩
    · rw [h4] at e; cases e
    rw [h4] at e; cases e; exact absurd (Bk.ty hb hb2) (by decide)
  exact k.row h (h2.ts.tb j hj).row (fun i hi => (ha.rr i j hi hj).symm)
theorem Lies.djn9 {y u u' : Value} (hl : Lies w u u') (hd : Djn y u) (hy : ∀ g, y.ownBlock = some g → g < w.heap.size) : Djn y u' := fun g h1 h2 => by
  rcases hl with e | e
  · rw [e] at h2; exact hd g h1 h2
  · have := e g h2; have := hy g h1; omega
end
def ctF (v : Nat → List Vt) : Nat → List Vc := fun i => (v i).map Vt.ct
theorem ctF_upd (v : Nat → List Vt) (s : Nat) (ls : List Vt) : ctF (updF v s ls) = updF (ctF v) s (ls.map Vt.ct) := by
  funext i; unfold ctF updF; split <;> rfl
def hasC (C : List Vc) (id : List UInt8) : Bool := C.any fun c => decide (c.id = id)
def plcC (c : Vc) (C : List Vc) : List Vc := (C.filter fun z => decide (idn z.id < idn c.id)) ++ [c] ++ (C.filter fun z => decide (idn c.id < idn z.id))
theorem plc_ct (x : Vt) (xs : List Vt) : (plc x xs).map Vt.ct = plcC x.ct (xs.map Vt.ct) := by
  unfold plc plcC lts gts
  rw [List.map_append, List.map_append, List.filter_map, List.filter_map]
  rfl
theorem has_iff (xs : List Vt) (id : List UInt8) : hasC (xs.map Vt.ct) id = true ↔ Has xs id := by
  unfold hasC Has
  rw [List.any_map, List.any_eq_true]
  exact ⟨fun ⟨y, hy, h⟩ => ⟨y, hy, of_decide_eq_true h⟩, fun ⟨y, hy, h⟩ => ⟨y, hy, decide_eq_true h⟩⟩
theorem det_has {w : World} {T : Nat} {rv : Value} {vs : List Vt} (ht : TB w T rv vs) {id : List UInt8} (hid : id.length = 4) {c : Vc} {b : Bool} (h : GetDet vs (idn id) c b) : b = hasC (vs.map Vt.ct) id := by
  rw [h.1]
  apply Bool.eq_iff_iff.2
  rw [decide_eq_true_eq, has_iff]
  constructor
  · rintro ⟨q, hq, e⟩
    have hy : vs[q]? = some vs[q] := List.getElem?_eq_getElem hq
    rw [idF_at vs q _ hy] at e
    exact ⟨vs[q], List.getElem_mem hq, idn_inj (ht.row.ins q _ hy).ok.idN hid e⟩
  rintro ⟨y, hy, e⟩
  obtain ⟨q, hq, e2⟩ := List.getElem_of_mem hy
  exact ⟨q, hq, by rw [idF_at vs q y (by rw [List.getElem?_eq_getElem hq, e2]), e]⟩
theorem putrel_plc {w : World} {T : Nat} {rv : Value} {vs ls : List Vt} (ht : TB w T rv vs) {x : Vt} (hr : x.ct.right = true) (hp : PutRel vs x ls) (hroom : ¬ (NotIn vs (idn x.id) ∧ 4 ≤ vs.length)) : ls.map Vt.ct = (plc x vs).map Vt.ct := by
  rcases hp with ⟨h, _⟩ | ⟨_, p, z, hb, hz, ⟨h1, h2, rfl⟩ | ⟨h1, h2, _⟩ | ⟨h1, h2, rfl⟩⟩
  · rw [hr] at h; cases h
  · unfold plc
    rw [lts_take hb, gts_drop hb (Nat.le_succ p) (fun i hi => by
      rcases Nat.eq_or_lt_of_le (Nat.le_of_lt_succ hi) with h | h
      · rw [h, h2]; exact Nat.le_refl _
      · exact Nat.le_of_lt (hb.2.1 i h)) (fun i h3 h4 => by rw [← h2]; exact ht.srt p i h3 h4)]
    rw [List.set_eq_take_append_cons_drop, if_pos h1]
    simp only [List.map_append, List.map_cons, List.map_nil, hz, List.append_assoc, List.cons_append, List.nil_append]
  · exact absurd ⟨h1, by omega⟩ hroom
  unfold plc
  rw [lts_take hb, gts_drop hb (Nat.le_refl p) (fun i hi => Nat.le_of_lt (hb.2.1 i hi)) (fun i h3 h4 => by
    rcases Nat.eq_or_lt_of_le (hb.2.2 i h3 h4) with h | h
    · exact absurd ⟨i, h4, h.symm⟩ h1
    · exact h)]
  simp only [List.map_append, List.map_cons, List.map_nil, hz, List.append_assoc, List.cons_append, List.nil_append]
def Rk.home (x : Rk) : Nat := (Sm.shV x.v.id).toNat
/-- what a record is told -/
structure ChkC (m n : Int) (p : Nat → Pa) (C : Nat → List Vc) (x : Rk) (E : Int) : Prop where
  k1 : x.kind = 1 → (x.keepR → E = ckE (p x.home) (hasC (C x.home) x.v.id) (C x.home).length) ∧ (¬ x.keepR → E = 1)
  k2 : x.kind = 2 → (x.outR → E = outE m n (p x.shard.toNat) x.tw x.ep) ∧ (¬ x.outR → E = 1)
  k3 : x.kind = 3 → (x.inR → (AllOf x.l (x.shard.toNat : Int) → E = inE (p x.shard.toNat) x.ep) ∧ (¬ AllOf x.l (x.shard.toNat : Int) → E = 1)) ∧ (¬ x.inR → E = 1)
  k4 : x.kind = 4 → (x.doneR → E = if (p x.shard.toNat).role = 2 ∧ (p x.shard.toNat).ep = x.ep then 0 else 26) ∧ (¬ x.doneR → E = 1)
  k0 : ¬ (x.kind = 1 ∨ x.kind = 2 ∨ x.kind = 3 ∨ x.kind = 4) → E = 1
theorem home_lt (x : Rk) : x.home < 16 ∧ Sm.shV x.v.id = (x.home : Int) := by
  obtain ⟨s, h1, h2⟩ := shv_range x.v.id
  unfold Rk.home
  rw [h1]; exact ⟨by simpa using h2, by simp⟩
theorem ChkC.uniq {m n : Int} {p : Nat → Pa} {C C2 : Nat → List Vc} {x : Rk} {E E2 : Int} (h : ChkC m n p C x E) (h2 : ChkC m n p C2 x E2) (hC : ∀ i, i < 16 → C i = C2 i) : E = E2 := by
  by_cases k1 : x.kind = 1
  · by_cases hr : x.keepR
    · rw [(h.k1 k1).1 hr, (h2.k1 k1).1 hr, hC _ (home_lt x).1]
    rw [(h.k1 k1).2 hr, (h2.k1 k1).2 hr]
  by_cases k2 : x.kind = 2
  · by_cases hr : x.outR
    · rw [(h.k2 k2).1 hr, (h2.k2 k2).1 hr]
    rw [(h.k2 k2).2 hr, (h2.k2 k2).2 hr]
  by_cases k3 : x.kind = 3
  · by_cases hr : x.inR
    · by_cases ha : AllOf x.l (x.shard.toNat : Int)
      · rw [((h.k3 k3).1 hr).1 ha, ((h2.k3 k3).1 hr).1 ha]
      rw [((h.k3 k3).1 hr).2 ha, ((h2.k3 k3).1 hr).2 ha]
    rw [(h.k3 k3).2 hr, (h2.k3 k3).2 hr]
  by_cases k4 : x.kind = 4
  · by_cases hr : x.doneR
    · rw [(h.k4 k4).1 hr, (h2.k4 k4).1 hr]
    rw [(h.k4 k4).2 hr, (h2.k4 k4).2 hr]
  rw [h.k0 (by rintro (h | h | h | h) <;> contradiction), h2.k0 (by rintro (h | h | h | h) <;> contradiction)]
/-- what a record makes of a state -/
structure StepC (m n : Int) (p : Nat → Pa) (C : Nat → List Vc) (x : Rk) (E : Int) (p' : Nat → Pa) (C' : Nat → List Vc) : Prop where
  chk : ChkC m n p C x E
  ne : E ≠ 0 → p' = p ∧ C' = C
  z1 : E = 0 → x.kind = 1 → x.keepR ∧ p' = p ∧ C' = updF C x.home (plcC x.v.ct (C x.home))
  z2 : E = 0 → x.kind = 2 → x.outR ∧ p' = updF p x.shard.toNat ⟨2, x.ep, x.tw⟩ ∧ C' = C
  z3 : E = 0 → x.kind = 3 → x.inR ∧ AllOf x.l (x.shard.toNat : Int) ∧ p' = updF p x.shard.toNat ⟨1, x.ep, 0⟩ ∧ C' = updF C x.shard.toNat (x.l.map Vt.ct)
  z4 : E = 0 → x.kind = 4 → x.doneR ∧ p' = updF p x.shard.toNat ⟨0, x.ep, 0⟩ ∧ C' = updF C x.shard.toNat []
theorem StepC.kinds {m n : Int} {p p' : Nat → Pa} {C C' : Nat → List Vc} {x : Rk} (h : StepC m n p C x 0 p' C') : x.kind = 1 ∨ x.kind = 2 ∨ x.kind = 3 ∨ x.kind = 4 :=
  Classical.byContradiction fun hn => absurd (h.chk.k0 hn) (by decide)
theorem StepC.uniq {m n : Int} {p p1 p2 : Nat → Pa} {C C2 C1 C3 : Nat → List Vc} {x : Rk} {E E2 : Int} (h : StepC m n p C x E p1 C1) (h2 : StepC m n p C2 x E2 p2 C3) (hC : ∀ i, i < 16 → C i = C2 i) : E = E2 ∧ p1 = p2 ∧ ∀ i, i < 16 → C1 i = C3 i := by
  have hE := h.chk.uniq h2.chk hC
  subst hE
  refine ⟨rfl, ?_⟩
  by_cases h0 : E = 0
  rotate_left
  · obtain ⟨e1, e2⟩ := h.ne h0
    obtain ⟨e3, e4⟩ := h2.ne h0
    exact ⟨e1.trans e3.symm, fun i hi => by rw [e2, e4]; exact hC i hi⟩
  subst h0
  rcases h.kinds with k | k | k | k
  · obtain ⟨_, e1, e2⟩ := h.z1 rfl k
    obtain ⟨_, e3, e4⟩ := h2.z1 rfl k
    refine ⟨e1.trans e3.symm, fun i hi => ?_⟩
    rw [e2, e4, hC _ (home_lt x).1]
    unfold updF; split
    · rfl
    exact hC i hi
  · obtain ⟨_, e1, e2⟩ := h.z2 rfl k
    obtain ⟨_, e3, e4⟩ := h2.z2 rfl k
    exact ⟨e1.trans e3.symm, fun i hi => by rw [e2, e4]; exact hC i hi⟩
  · obtain ⟨_, _, e1, e2⟩ := h.z3 rfl k
    obtain ⟨_, _, e3, e4⟩ := h2.z3 rfl k
    refine ⟨e1.trans e3.symm, fun i hi => ?_⟩
    rw [e2, e4]
    unfold updF; split
    · rfl
    exact hC i hi
  obtain ⟨_, e1, e2⟩ := h.z4 rfl k
  obtain ⟨_, e3, e4⟩ := h2.z4 rfl k
  refine ⟨e1.trans e3.symm, fun i hi => ?_⟩
  rw [e2, e4]
  unfold updF; split
  · rfl
  exact hC i hi
/-- what is kept: right vaults, none where a shard is away -/
def WfC (p : Nat → Pa) (C : Nat → List Vc) : Prop := ∀ i, i < 16 → (∀ c ∈ C i, c.right = true) ∧ ((p i).role = 0 → C i = []) ∧ (p i).Ok
theorem StepC.wf {m n : Int} {p p' : Nat → Pa} {C C' : Nat → List Vc} {x : Rk} {E : Int} (h : StepC m n p C x E p' C') (hw : WfC p C) (hep : 0 ≤ x.ep ∧ x.ep < 18446744073709551616) (htw : i64 x.tw) : WfC p' C' := by
  by_cases h0 : E = 0
  rotate_left
  · obtain ⟨e1, e2⟩ := h.ne h0
    rw [e1, e2]; exact hw
  subst h0
  rcases h.kinds with k | k | k | k
  · obtain ⟨hr, e1, e2⟩ := h.z1 rfl k
    have hck := (h.chk.k1 k).1 hr
    rw [e1, e2]
    intro i hi
    by_cases e : i = x.home
    · rw [e, updF_same]
      refine ⟨fun c hc => ?_, fun h0 => ?_, (hw _ (home_lt x).1).2.2⟩
      · unfold plcC at hc
        rcases List.mem_append.1 hc with h1 | h1
        · rcases List.mem_append.1 h1 with h1 | h1
          · exact (hw _ (home_lt x).1).1 c (List.mem_filter.1 h1).1
          rw [List.mem_singleton.1 h1]; exact hr.1
        exact (hw _ (home_lt x).1).1 c (List.mem_filter.1 h1).1
      exfalso; unfold ckE at hck; rw [if_pos h0] at hck; exact absurd hck (by decide)
    rw [updF_ne _ _ e]; exact hw i hi
  · obtain ⟨hr, e1, e2⟩ := h.z2 rfl k
    rw [e1, e2]
    intro i hi
    by_cases e : i = x.shard.toNat
    · rw [e, updF_same]
      exact ⟨(hw _ (e ▸ hi)).1, (fun h => absurd h (by decide : ¬ (2 : Int) = 0)), ⟨by unfold i64; simp only; omega, hep, htw⟩⟩
    rw [updF_ne _ _ e]; exact hw i hi
  · obtain ⟨hr, _, e1, e2⟩ := h.z3 rfl k
    rw [e1, e2]
    intro i hi
    by_cases e : i = x.shard.toNat
    · rw [e, updF_same, updF_same]
      refine ⟨fun c hc => ?_, (fun h => absurd h (by decide : ¬ (1 : Int) = 0)), ⟨by unfold i64; simp only; omega, hep, by unfold i64; simp only; omega⟩⟩
      obtain ⟨y, hy, rfl⟩ := List.mem_map.1 hc
      obtain ⟨q, hq, e9⟩ := List.getElem_of_mem hy
      exact hr.2.2.2.1 q y (by rw [List.getElem?_eq_getElem hq, e9])
    rw [updF_ne _ _ e, updF_ne _ _ e]; exact hw i hi
  obtain ⟨hr, e1, e2⟩ := h.z4 rfl k
  rw [e1, e2]
  intro i hi
  by_cases e : i = x.shard.toNat
  · rw [e, updF_same, updF_same]
    exact ⟨fun c hc => by simp at hc, fun _ => rfl, ⟨by unfold i64; simp only; omega, hep, by unfold i64; simp only; omega⟩⟩
  rw [updF_ne _ _ e, updF_ne _ _ e]; exact hw i hi
theorem StepC.ep {m n : Int} {p p' : Nat → Pa} {C C' : Nat → List Vc} {x : Rk} {E : Int} (h : StepC m n p C x E p' C') (hw : WfC p C) : ∀ i, i < 16 → (p i).ep ≤ (p' i).ep := by
  intro i hi
  by_cases h0 : E = 0
  rotate_left
  · rw [(h.ne h0).1]; exact Int.le_refl _
  subst h0
  rcases h.kinds with k | k | k | k
  · obtain ⟨_, e1, _⟩ := h.z1 rfl k
    rw [e1]; exact Int.le_refl _
  · obtain ⟨hr, e1, _⟩ := h.z2 rfl k
    have hck := (h.chk.k2 k).1 hr
    rw [e1]
    by_cases e : i = x.shard.toNat
    · rw [e, updF_same]
      show (p x.shard.toNat).ep ≤ x.ep
      have hok := (hw _ (e ▸ hi)).2.2.ep
      unfold outE at hck
      split at hck
      · exact absurd hck (by decide)
      split at hck
      · rename_i h1 h2; exact absurd hck.symm h2
      split at hck
      · rename_i h1 h2 h3
        rw [show IntKind.u64.wrap ((p x.shard.toNat).ep + 1) = ((p x.shard.toNat).ep + 1) % 18446744073709551616 from by simp [IntKind.wrap, IntKind.bits, IntKind.signed]] at h3
        have := hr.1.2.2.1
        omega
      exact absurd hck (by decide)
    rw [updF_ne _ _ e]; exact Int.le_refl _
  · obtain ⟨hr, ha, e1, _⟩ := h.z3 rfl k
    have hck := ((h.chk.k3 k).1 hr).1 ha
    rw [e1]
    by_cases e : i = x.shard.toNat
    · rw [e, updF_same]
      show (p x.shard.toNat).ep ≤ x.ep
      unfold inE at hck
      split at hck
      · exact absurd hck (by decide)
      split at hck
      · exact absurd hck (by decide)
      omega
    rw [updF_ne _ _ e]; exact Int.le_refl _
  obtain ⟨hr, e1, _⟩ := h.z4 rfl k
  have hck := (h.chk.k4 k).1 hr
  rw [e1]
  by_cases e : i = x.shard.toNat
  · rw [e, updF_same]
    show (p x.shard.toNat).ep ≤ x.ep
    split at hck
    · rename_i h1; rw [h1.2]; exact Int.le_refl _
    exact absurd hck (by decide)
  rw [updF_ne _ _ e]; exact Int.le_refl _
end Go.Proofs.Ytmjfnpmnhehnkaa
namespace Go.Proofs.Ytmjfnpmnhehnkaa
open Go.RowKit
/-- a record that two states may be given -/
structure RkX (w0 w : World) (x : Rk) : Prop where
  inn : x.In w
  px : x.v.ct.right = true → PX w0 w x.v
  pxs : x.inR → ∀ y ∈ x.l, PX w0 w y
  md : ∀ (M : Nat), w0.heap.size ≤ M → (∃ cs, Bk w M 115 cs) → ∀ wa wb, Ex w wa → Md M wa wb → Vp.In x.ad x.cap x.l wb ∧ ∀ (i : Nat) (y : Vt), x.l[i]? = some y → VI wb y
theorem right_len {x : Vt} (h : x.ct.right = true) : x.sec.l.length ≤ 64 := by
  unfold Vc.right at h
  rw [Bool.and_eq_true] at h
  obtain ⟨_, h⟩ := h
  split at h
  · have e := of_decide_eq_true h
    have : x.ct.sec = [] := by rw [e]; rfl
    rw [show x.sec.l = x.ct.sec from rfl, this]; decide
  simp only [Bool.and_eq_true, decide_eq_true_eq] at h
  exact h.2
theorem RkX.raw {w0 w : World} {x : Rk} (h : x.In w0) (k : Ex w0 w) : RkX w0 w x :=
  ⟨h.ext k, fun hr => ⟨h.v.ok, Or.inl (h.v.sec.keep k), right_len hr⟩, fun hr y hy => by
    obtain ⟨q, hq, e9⟩ := List.getElem_of_mem hy
    have hv := h.ins q y (by rw [List.getElem?_eq_getElem hq, e9])
    exact ⟨hv.ok, Or.inl (hv.sec.keep k), right_len (hr.2.2.2.1 q y (by rw [List.getElem?_eq_getElem hq, e9]))⟩, fun M hM _ wa wb ka km => by
    have kb : Ex w0 wb := km.ex (Ex.trans k ka) hM
    exact ⟨h.inn.ext kb, fun i y hy => (h.ins i y hy).ext kb⟩⟩
theorem RkX.made {w0 w : World} {B : Nat} {x : Rk} (h : RkM w B x) : RkX w0 w x :=
  ⟨h.inn, fun hr => ⟨h.v.ok, Or.inr (h.v.sec.less (Nat.zero_le _)), h.v.len⟩, fun _ y hy => by
    have hv := h.row.mem hy
    exact ⟨hv.ok, Or.inr (hv.sec.less (Nat.zero_le _)), hv.len⟩, fun M hM hb wa wb ka km => by
    obtain ⟨cs, hb⟩ := hb
    have kt : Kt [115] 0 wa wb := Kt.md km (Nat.zero_le _) (hb.ext ka) (List.mem_singleton.2 rfl)
    have hr := h.row.ext ka
    have hr' : VRow wb B (.slice x.ad x.l.length x.cap) x.l := ⟨kt.row hr.row (by decide), fun i z hz => (hr.ins i z hz).kt kt (by decide)⟩
    obtain ⟨ad, cap, e, hin⟩ := hr'.inn
    cases e
    exact ⟨hin, fun i y hy => (hr'.ins i y hy).vi⟩⟩
def SAP (B M : Nat) (m n : Int) (p : Nat → Pa) (D : Nat → Nat) (r : Nat → Value) (v : Nat → List Vt) (x : Rk) (w : World) (e : Ending) (w' : World) : Prop :=
  ∃ (E : Int) (p' : Nat → Pa) (r' : Nat → Value) (v' : Nat → List Vt), e = .returned (.int .i64 E) ∧ StepC m n p (ctF v) x E p' (ctF v') ∧ SS w' B M m n p' D r' v' ∧ SFr M D r w w' ∧ ∀ i, i < 16 → Lies w (r i) (r' i)
theorem lies_upd {w : World} {r : Nat → Value} {s : Nat} {r' : Value} (h : Lies w (r s) r') : ∀ i, i < 16 → Lies w (r i) (updF r s r' i) := fun i _ => by
  by_cases e : i = s
  · rw [e, updF_same]; exact h
  · rw [updF_ne _ _ e]; exact Or.inl rfl
section
variable {B M : Nat} {m n : Int} {p : Nat → Pa} {D : Nat → Nat} {r : Nat → Value} {v : Nat → List Vt} {x : Rk} {w w' : World} {e : Ending}
/-- refused: nothing is other -/
theorem sap_no {E : Int} (hc : ChkC m n p (ctF v) x E) (h0 : E ≠ 0) (h : SS w B M m n p D r v) (hx : Ex w w') : SAP B M m n p D r v x w (.returned (.int .i64 E)) w' :=
  ⟨E, p, r, v, rfl, ⟨hc, fun _ => ⟨rfl, rfl⟩, fun h => absurd h h0, fun h => absurd h h0, fun h => absurd h h0, fun h => absurd h h0⟩, h.ext hx, hx.sfr M D r, fun i _ => Or.inl rfl⟩
end
theorem chk1 {m n : Int} {p : Nat → Pa} {C : Nat → List Vc} {x : Rk} {E : Int} (k : x.kind = 1) (h : (x.keepR → E = ckE (p x.home) (hasC (C x.home) x.v.id) (C x.home).length) ∧ (¬ x.keepR → E = 1)) : ChkC m n p C x E := ⟨fun _ => h, fun h => by omega, fun h => by omega, fun h => by omega, fun h => absurd (Or.inl k) h⟩
theorem chk2 {m n : Int} {p : Nat → Pa} {C : Nat → List Vc} {x : Rk} {E : Int} (k : x.kind = 2) (h : (x.outR → E = outE m n (p x.shard.toNat) x.tw x.ep) ∧ (¬ x.outR → E = 1)) : ChkC m n p C x E := ⟨fun h => by omega, fun _ => h, fun h => by omega, fun h => by omega, fun h => absurd (Or.inr (Or.inl k)) h⟩
theorem chk3 {m n : Int} {p : Nat → Pa} {C : Nat → List Vc} {x : Rk} {E : Int} (k : x.kind = 3) (h : (x.inR → (AllOf x.l (x.shard.toNat : Int) → E = inE (p x.shard.toNat) x.ep) ∧ (¬ AllOf x.l (x.shard.toNat : Int) → E = 1)) ∧ (¬ x.inR → E = 1)) : ChkC m n p C x E := ⟨fun h => by omega, fun h => by omega, fun _ => h, fun h => by omega, fun h => absurd (Or.inr (Or.inr (Or.inl k))) h⟩
theorem chk4 {m n : Int} {p : Nat → Pa} {C : Nat → List Vc} {x : Rk} {E : Int} (k : x.kind = 4) (h : (x.doneR → E = if (p x.shard.toNat).role = 2 ∧ (p x.shard.toNat).ep = x.ep then 0 else 26) ∧ (¬ x.doneR → E = 1)) : ChkC m n p C x E := ⟨fun h => by omega, fun h => by omega, fun h => by omega, fun _ => h, fun h => absurd (Or.inr (Or.inr (Or.inr k))) h⟩
theorem chk0 {m n : Int} {p : Nat → Pa} {C : Nat → List Vc} {x : Rk} {E : Int} (k : ¬ (x.kind = 1 ∨ x.kind = 2 ∨ x.kind = 3 ∨ x.kind = 4)) (h : E = 1) : ChkC m n p C x E := ⟨fun h => absurd (Or.inl h) k, fun h => absurd (Or.inr (Or.inl h)) k, fun h => absurd (Or.inr (Or.inr (Or.inl h))) k, fun h => absurd (Or.inr (Or.inr (Or.inr h))) k, fun _ => h⟩
/-- the test of a shard's vaults, of a record that comes in -/
theorem ex_in (x : Rk) (q : Pa) (s : Int) : ∃ E1 : Int, (AllOf x.l s → E1 = inE q x.ep) ∧ (¬ AllOf x.l s → E1 = 1) := by
  by_cases h : AllOf x.l s
  · exact ⟨_, fun _ => rfl, fun h2 => absurd h h2⟩
  exact ⟨1, fun h2 => absurd h2 h, fun _ => rfl⟩
theorem step2 {m n : Int} {p : Nat → Pa} {C : Nat → List Vc} {x : Rk} (k : x.kind = 2) (hr : x.outR) (hE : outE m n (p x.shard.toNat) x.tw x.ep = 0) : StepC m n p C x 0 (updF p x.shard.toNat ⟨2, x.ep, x.tw⟩) C :=
  ⟨chk2 k ⟨fun _ => hE.symm, fun h => absurd hr h⟩, fun h => absurd rfl h, fun _ h => by omega, fun _ _ => ⟨hr, rfl, rfl⟩, fun _ h => by omega, fun _ h => by omega⟩
theorem step3 {m n : Int} {p : Nat → Pa} {C : Nat → List Vc} {x : Rk} {E1 : Int} (k : x.kind = 3) (hr : x.inR) (h1 : AllOf x.l (x.shard.toNat : Int) → E1 = inE (p x.shard.toNat) x.ep) (h2 : ¬ AllOf x.l (x.shard.toNat : Int) → E1 = 1) (hE : E1 = 0) : StepC m n p C x 0 (updF p x.shard.toNat ⟨1, x.ep, 0⟩) (updF C x.shard.toNat (x.l.map Vt.ct)) := by
  have ha : AllOf x.l (x.shard.toNat : Int) := Classical.byContradiction fun h => by have := h2 h; omega
  exact ⟨chk3 k ⟨fun _ => ⟨fun _ => hE.symm.trans (h1 ha), fun h => absurd ha h⟩, fun h => absurd hr h⟩, fun h => absurd rfl h, fun _ h => by omega, fun _ h => by omega, fun _ _ => ⟨hr, ha, rfl, rfl⟩, fun _ h => by omega⟩
theorem step4 {m n : Int} {p : Nat → Pa} {C : Nat → List Vc} {x : Rk} (k : x.kind = 4) (hr : x.doneR) (hE : (if (p x.shard.toNat).role = 2 ∧ (p x.shard.toNat).ep = x.ep then (0 : Int) else 26) = 0) : StepC m n p C x 0 (updF p x.shard.toNat ⟨0, x.ep, 0⟩) (updF C x.shard.toNat []) :=
  ⟨chk4 k ⟨fun _ => hE.symm, fun h => absurd hr h⟩, fun h => absurd rfl h, fun _ h => by omega, fun _ h => by omega, fun _ h => by omega, fun _ _ => ⟨hr, rfl, rfl⟩⟩
theorem step1 {m n : Int} {p : Nat → Pa} {C : Nat → List Vc} {x : Rk} (k : x.kind = 1) (hr : x.keepR) (hE : ckE (p x.home) (hasC (C x.home) x.v.id) (C x.home).length = 0) : StepC m n p C x 0 p (updF C x.home (plcC x.v.ct (C x.home))) :=
  ⟨chk1 k ⟨fun _ => hE.symm, fun h => absurd hr h⟩, fun h => absurd rfl h, fun _ _ => ⟨hr, rfl, rfl⟩, fun _ h => by omega, fun _ h => by omega, fun _ h => by omega⟩
theorem ckE_room {q : Pa} {b : Bool} {nn : Nat} (h : ckE q b nn = 0) : ¬ (b = false ∧ 4 ≤ nn) := fun hn => by
  unfold ckE at h
  by_cases h0 : q.role = 0
  · rw [if_pos h0] at h; exact absurd h (by decide)
  · rw [if_neg h0] at h
    by_cases h2 : q.role = 2
    · rw [if_pos h2] at h; exact absurd h (by decide)
    · rw [if_neg h2, if_pos hn] at h; exact absurd h (by decide)
theorem sapply_all (B M : Nat) (m n : Int) (p : Nat → Pa) (D : Nat → Nat) (r : Nat → Value) (v : Nat → List Vt) (x : Rk) (w : World) (hx : x.In w) (hmd : ∀ wa wb, Ex w wa → Md M wa wb → Vp.In x.ad x.cap x.l wb ∧ ∀ (i : Nat) (y : Vt), x.l[i]? = some y → VI wb y) (h : SS w B M m n p D r v) : Calls Try.prog 17 #[.pointer (some ⟨M, 0, none⟩), x.V] w (SAP B M m n p D r v x w) := by
  by_cases k1 : x.kind = 1
  · obtain ⟨hs16, hs⟩ := home_lt x
    obtain ⟨c, b, hdet⟩ := get_det (v x.home) (idn x.v.id)
    have hb : b = hasC (ctF v x.home) x.v.id := det_has (h.ts.tb _ hs16) hx.v.ok.idN hdet
    have hlen : (ctF v x.home).length = (v x.home).length := List.length_map _
    refine (apply_keep B M m n p D r v x k1 x.home hs hs16 c b hdet w hx h).mono ?_
    rintro e w' (⟨h1, ⟨E, rfl, e0, e1, e2⟩, hex⟩ | ⟨hk, hE, rfl, r', ls, hp, hss, htc, hl⟩)
    · exact sap_no (chk1 k1 ⟨fun hr => by rw [e1 hr, ← hb, hlen], e2⟩) e0 h hex
    have hroom := ckE_room hE
    refine ⟨0, p, _, _, rfl, ?_, hss, htc.sfr hs16, lies_upd hl⟩
    have e9 : ctF (updF v x.home ls) = updF (ctF v) x.home (plcC x.v.ct (ctF v x.home)) := by
      rw [ctF_upd, putrel_plc (h.ts.tb _ hs16) hk.1 hp (fun hn => hroom ⟨(getdet_in hdet).2 hn.1, hn.2⟩), plc_ct]; rfl
    rw [e9]
    exact step1 k1 hk (by rw [← hb, hlen]; exact hE)
  by_cases k2 : x.kind = 2
  · refine (apply_out B M m n p D r v x k2 _ rfl w hx h).mono ?_
    rintro e w' (⟨h1, ⟨E, rfl, e0, e1, e2⟩, hex⟩ | ⟨hr, hE, rfl, hss, hmd2⟩)
    · exact sap_no (chk2 k2 ⟨e1, e2⟩) e0 h hex
    exact ⟨0, _, r, v, rfl, step2 k2 hr hE, hss, hmd2.sfr, fun i _ => Or.inl rfl⟩
  by_cases k3 : x.kind = 3
  · obtain ⟨E1, hE1, hE2⟩ := ex_in x (p x.shard.toNat) (x.shard.toNat : Int)
    refine (apply_in B M m n p D r v x k3 E1 hE1 hE2 w hx hmd h).mono ?_
    rintro e w' (⟨h1, ⟨E, rfl, e0, e1, e2⟩, hex⟩ | ⟨hr, hE, rfl, rv', ys, hc, hss, hmd2, hf⟩)
    · exact sap_no (chk3 k3 ⟨fun hr => ⟨fun ha => (e1 hr).trans (hE1 ha), fun ha => (e1 hr).trans (hE2 ha)⟩, e2⟩) e0 h hex
    have hs16 : x.shard.toNat < 16 := by have := hr.1.1; have := hr.1.2.1; omega
    refine ⟨0, _, _, _, rfl, ?_, hss, hmd2.sfr hs16, lies_upd (Or.inr hf)⟩
    rw [ctF_upd, hc]
    exact step3 k3 hr hE1 hE2 hE
  by_cases k4 : x.kind = 4
  · refine (apply_done B M m n p D r v x k4 _ rfl w hx h).mono ?_
    rintro e w' (⟨h1, ⟨E, rfl, e0, e1, e2⟩, hex⟩ | ⟨hr, hE, rfl, rv', ys, hc, hss, hmd2, hf⟩)
    · exact sap_no (chk4 k4 ⟨e1, e2⟩) e0 h hex
    have hs16 : x.shard.toNat < 16 := by have := hr.1.1; have := hr.1.2.1; omega
    have hep : (p x.shard.toNat).ep = x.ep := by
      split at hE
      · rename_i h9; exact h9.2
      · exact absurd hE (by decide)
    rw [hep] at hss
    refine ⟨0, _, _, _, rfl, ?_, hss, hmd2.sfr hs16, lies_upd (Or.inr hf)⟩
    rw [ctF_upd, hc]
    exact step4 k4 hr hE
  have k0 : ¬ (x.kind = 1 ∨ x.kind = 2 ∨ x.kind = 3 ∨ x.kind = 4) := by rintro (h | h | h | h) <;> contradiction
  refine (apply_none M x k0 w hx).mono ?_
  rintro e w' ⟨rfl, hex⟩
  exact sap_no (chk0 k0 rfl) (by decide) h hex
def RAP (w0 : World) (M : Nat) (m n : Int) (p : Nat → Pa) (R : Nat → Value) (xs : Nat → List Vt) (x : Rk) (w : World) (e : Ending) (w' : World) : Prop :=
  ∃ (E : Int) (p' : Nat → Pa) (R' : Nat → Value) (xs' : Nat → List Vt), e = .returned (.int .i64 E) ∧ StepC m n p (ctF xs) x E p' (ctF xs') ∧ RS w0 w' M m n p' R' xs' ∧ Kt [124] w0.heap.size w w' ∧ ∀ i, i < 16 → Lies w (R i) (R' i)
theorem rap_no {w0 : World} {M : Nat} {m n : Int} {p : Nat → Pa} {R : Nat → Value} {xs : Nat → List Vt} {x : Rk} {w w' : World} {E : Int} (hc : ChkC m n p (ctF xs) x E) (h0 : E ≠ 0) (h : RS w0 w M m n p R xs) (hx : Ex w w') : RAP w0 M m n p R xs x w (.returned (.int .i64 E)) w' :=
  ⟨E, p, R, xs, rfl, ⟨hc, fun _ => ⟨rfl, rfl⟩, fun h => absurd h h0, fun h => absurd h h0, fun h => absurd h h0, fun h => absurd h h0⟩, h.ext hx, hx.kt h.sz, fun i _ => Or.inl rfl⟩
theorem rap_yes {w0 : World} {M : Nat} {m n : Int} {p : Nat → Pa} {R : Nat → Value} {xs : Nat → List Vt} {x : Rk} {w w' : World} {s : Nat} {q : Pa} {ys : List Vt} (hf : RAF w0 M m n p R xs s q ys w w') (hst : StepC m n p (ctF xs) x 0 (updF p s q) (updF (ctF xs) s (ys.map Vt.ct))) : RAP w0 M m n p R xs x w (.returned (.int .i64 0)) w' := by
  obtain ⟨v9, h1, h2, h3⟩ := hf
  refine ⟨0, _, _, _, rfl, by rw [ctF_upd]; exact hst, h1, h2, lies_upd ?_⟩
  rcases h3 with e | e
  · rw [e]; exact Or.inl rfl
  exact Or.inr e
set_option maxHeartbeats 4000000 in
set_option maxRecDepth 100000 in
theorem rapply_bad (w0 : World) (M : Nat) (m n : Int) (p : Nat → Pa) (R : Nat → Value) (xs : Nat → List Vt) (x : Rk) (hk : x.kind = 1) (hn : ¬ x.keepR) (w : World) (hx : x.In w) (h : RS w0 w M m n p R xs) : Calls Try.prog 24 #[.pointer (some ⟨M, 0, none⟩), x.V] w fun e w' => e = .returned (.int .i64 1) ∧ Ex w w' := by
  obtain ⟨cs, hcs⟩ : ∃ cs, cs = x.C.toArray := ⟨_, rfl⟩
  have A0 : Hid (KB9 (w.alloc (.cells cs 39)) w.heap.size x) := Hi ⟨hx.v.ok, by rw [hcs]; exact Bk.new rfl _ _⟩
  have B0 : Hid (Ex w (w.alloc (.cells cs 39))) := Hi (Ex.alloc _ _)
  have HS := Hi (h.ext B0.out)
  rw [show (Calls Try.prog 24 #[.pointer (some ⟨M, 0, none⟩), x.V] w) = (Calls Try.prog 24 #[.pointer (some ⟨M, 0, none⟩), .agg cs] w) by rw [hcs]; rfl]
  have HX := Hi hx
  clear hcs hx h
  have HK := Hi hk
  go_enter Try.func24, Try.ntmps24
  have HP := Hi HS.out
  have HN := Hi hn
  clear hn
  go_wp2_with (first | ((with_reducible refine so0 ?_ ?_); (focus rfl)) | ((with_reducible refine so4 [39] ?_ ?_); (focus rfl)))
  (with_reducible refine ⟨?_⟩)
  change wpList _ _ _ _ _ (w.alloc (.cells cs 39))
  generalize hw1 : w.alloc (.cells cs 39) = w1 at *
  clear hw1
  obtain ⟨B, hB⟩ : ∃ B, B = w.heap.size := ⟨_, rfl⟩
  rw [← hB] at A0 ⊢
  have HB := Hi hB
  clear hB
  (with_reducible refine at_any ?_ ?_); (focus go_simp); refine fun K0 hK => ld_rk _ B x rfl rfl A0.out (hK _ _ ?_)
  clear hK
  go_wp2_with fail
  obtain ⟨hs16, hs⟩ := home_lt x
  refine (rcheck_keep w0 M m n p R xs x HK.out x.home hs hs16 _ (has_iff (xs x.home) x.v.id) _ rfl w1 (HX.out.ext B0.out) HP.out).mono ?_
  rintro e w2 ⟨E, rfl, he1, he2, x2⟩
  have HE : Hid (E = 1) := Hi (he2 HN.out)
  rw [HE.out]
  replace B0 := Hi (Ex.trans B0.out x2)
  clear he1 he2 x2 hs hs16
  go_wp2_with fail
  go_ret
  exact ⟨rfl, B0.out⟩
theorem rapply_all (w0 : World) (M : Nat) (m n : Int) (p : Nat → Pa) (R : Nat → Value) (xs : Nat → List Vt) (x : Rk) (w : World) (hX : RkX w0 w x) (hsr : ∀ i, i < 16 → (xs i).length ≤ 4 ∧ ∀ a b, a < b → b < (xs i).length → idF (xs i) a < idF (xs i) b) (h : RS w0 w M m n p R xs) : Calls Try.prog 24 #[.pointer (some ⟨M, 0, none⟩), x.V] w (RAP w0 M m n p R xs x w) := by
  have hx := hX.inn
  by_cases k1 : x.kind = 1
  · obtain ⟨hs16, hs⟩ := home_lt x
    have hlen : (ctF xs x.home).length = (xs x.home).length := List.length_map _
    by_cases hr : x.v.ct.right = true
    · refine (rapply_keep w0 M m n p R xs x k1 x.home hs hs16 _ (has_iff (xs x.home) x.v.id) _ rfl w hx (hX.px hr) (hsr _ hs16) h).mono ?_
      rintro e w' (⟨h1, ⟨E, rfl, e0, e1, e2⟩, hex⟩ | ⟨hk, hE, rfl, hf⟩)
      · exact rap_no (chk1 k1 ⟨fun hr => by rw [e1 hr, hlen]; rfl, e2⟩) e0 h hex
      refine rap_yes hf ?_
      rw [updF_id, plc_ct]
      exact step1 k1 hk (by rw [hlen]; exact hE)
    refine (rapply_bad w0 M m n p R xs x k1 (fun hk => hr hk.1) w hx h).mono ?_
    rintro e w' ⟨rfl, hex⟩
    exact rap_no (chk1 k1 ⟨fun hk => absurd hk.1 hr, fun _ => rfl⟩) (by decide) h hex
  by_cases k2 : x.kind = 2
  · refine (rapply_out w0 M m n p R xs x k2 _ rfl w hx h).mono ?_
    rintro e w' (⟨h1, ⟨E, rfl, e0, e1, e2⟩, hex⟩ | ⟨hr, hE, rfl, hf⟩)
    · exact rap_no (chk2 k2 ⟨e1, e2⟩) e0 h hex
    refine rap_yes hf ?_
    rw [show updF (ctF xs) x.shard.toNat ((xs x.shard.toNat).map Vt.ct) = ctF xs from updF_id _ _]
    exact step2 k2 hr hE
  by_cases k3 : x.kind = 3
  · obtain ⟨E1, hE1, hE2⟩ := ex_in x (p x.shard.toNat) (x.shard.toNat : Int)
    refine (rapply_in w0 M m n p R xs x k3 E1 hE1 hE2 w hx hX.pxs h).mono ?_
    rintro e w' (⟨h1, ⟨E, rfl, e0, e1, e2⟩, hex⟩ | ⟨hr, hE, rfl, hf⟩)
    · exact rap_no (chk3 k3 ⟨fun hr => ⟨fun ha => (e1 hr).trans (hE1 ha), fun ha => (e1 hr).trans (hE2 ha)⟩, e2⟩) e0 h hex
    exact rap_yes hf (step3 k3 hr hE1 hE2 hE)
  by_cases k4 : x.kind = 4
  · refine (rapply_done w0 M m n p R xs x k4 _ rfl w hx h).mono ?_
    rintro e w' (⟨h1, ⟨E, rfl, e0, e1, e2⟩, hex⟩ | ⟨hr, hE, rfl, hf⟩)
    · exact rap_no (chk4 k4 ⟨e1, e2⟩) e0 h hex
    exact rap_yes hf (step4 k4 hr hE)
  have k0 : ¬ (x.kind = 1 ∨ x.kind = 2 ∨ x.kind = 3 ∨ x.kind = 4) := by rintro (h | h | h | h) <;> contradiction
  refine (rapply_none w0 M m n p R xs x k0 w hx h).mono ?_
  rintro e w' ⟨rfl, hex⟩
  exact rap_no (chk0 k0 rfl) (by decide) h hex
end Go.Proofs.Ytmjfnpmnhehnkaa
