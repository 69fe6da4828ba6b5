/- Jk, Jj -/
import Derived.Test.YtmjfnpmnhehnkaaXbg
import Derived.Deep.DeepCutAuto
namespace Go.Proofs.Ytmjfnpmnhehnkaa
open Go.RowKit
structure S10 (wz : World) (gz : Nat) (A Bl : List Rt) (E T : Rt) (l : Array Bool) (f : Nat → Value) (w : World) : Prop where
 ex : Ex wz w
 e0 : l.getD 0 false = true → l.getD 2 false = false → w.ownsRow gz 83 10 (f 0) 0 []
 e2 : l.getD 2 false = true → l.getD 5 false = false → w.ownsRow gz 83 10 (f 2) A.length (A.flatMap Rt.C)
 e4 : l.getD 4 false = true → l.getD 5 false = false → ∃ g, f 4 = .slice (some ⟨g, 0, none⟩) 1 1 ∧ Bk w g 83 E.C.toArray
 e13 : l.getD 13 false = true → l.getD 14 false = false → ∃ g, f 13 = .slice (some ⟨g, 0, none⟩) 1 1 ∧ Bk w g 83 T.C.toArray
 d04 : l.getD 0 false = true → l.getD 4 false = true → l.getD 2 false = false → l.getD 5 false = false → (f 0).ownBlock ≠ (f 4).ownBlock
 d013 : l.getD 0 false = true → l.getD 13 false = true → l.getD 2 false = false → l.getD 14 false = false → (f 0).ownBlock ≠ (f 13).ownBlock
 d24 : l.getD 2 false = true → l.getD 4 false = true → l.getD 5 false = false → (f 2).ownBlock ≠ (f 4).ownBlock
 d213 : l.getD 2 false = true → l.getD 13 false = true → l.getD 5 false = false → l.getD 14 false = false → (f 2).ownBlock ≠ (f 13).ownBlock
 e5 : l.getD 5 false = true → l.getD 15 false = false → w.ownsRow gz 83 10 (f 5) (A.length + 1) (A.flatMap Rt.C ++ E.C)
 e14 : l.getD 14 false = true → l.getD 15 false = false → w.ownsRow gz 83 10 (f 14) (Bl.length + 1) (Bl.flatMap Rt.C ++ T.C)
 e15 : l.getD 15 false = true → w.ownsRow gz 83 10 (f 15) ((A.length + 1) + (Bl.length + 1)) ((A.flatMap Rt.C ++ E.C) ++ (Bl.flatMap Rt.C ++ T.C))
section
variable {wz : World} {gz : Nat} {A Bl : List Rt} {E T : Rt} {l : Array Bool} {f : Nat → Value} {w w' : World} {v : Value}
theorem S10.start (h0 : ∀ i, l.getD i false = false) (hx : Ex wz w) : S10 wz gz A Bl E T l f w :=
 ⟨hx, (fun a => by rw [h0] at a; cases a), (fun a => by rw [h0] at a; cases a), (fun a => by rw [h0] at a; cases a), (fun a => by rw [h0] at a; cases a), (fun a => by rw [h0] at a; cases a), (fun a => by rw [h0] at a; cases a), (fun a => by rw [h0] at a; cases a), (fun a => by rw [h0] at a; cases a), (fun a => by rw [h0] at a; cases a), (fun a => by rw [h0] at a; cases a), (fun a => by rw [h0] at a; cases a)⟩
theorem blk_one {w : World} {g : Nat} {t : TypeId} {cs : Array Value} (hb : Bk w g t cs) {v : Value} (hv : v = .slice (some ⟨g, 0, none⟩) 1 1) : v.ownBlock = some g ∧ g < w.heap.size := ⟨by rw [hv]; rfl, hb.lt⟩
theorem grown_bk {g : Nat} {t : TypeId} {cs : Array Value} {o : Option Nat} (k : w.grownBy w' o) (hb : Bk w g t cs) (hne : o ≠ some g) : Bk w' g t cs := (k.block g hb.lt (fun e => hne e.symm)).trans hb
theorem S10.plain (h : S10 wz gz A Bl E T l f w) (kx : Ex w w') (i : Nat) (hi : i ≠ 0 ∧ i ≠ 2 ∧ i ≠ 4 ∧ i ≠ 5 ∧ i ≠ 13 ∧ i ≠ 14 ∧ i ≠ 15) : S10 wz gz A Bl E T (l.setIfInBounds i true) (upd f i v) w' := by
 refine ⟨Ex.trans h.ex kx, ?_, ?_, ?_, ?_, ?_, ?_, ?_, ?_, ?_, ?_, ?_⟩
 ·intro a0 a2; rw [gset hi.1 false] at a0; rw [gset hi.2.1 false] at a2; rw [upd_ne _ _ (Ne.symm hi.1)]
  exact kx.row (h.e0 a0 a2)
 ·intro a2 a5; rw [gset hi.2.1 false] at a2; rw [gset hi.2.2.2.1 false] at a5; rw [upd_ne _ _ (Ne.symm hi.2.1)]
  exact kx.row (h.e2 a2 a5)
 ·intro a4 a5; rw [gset hi.2.2.1 false] at a4; rw [gset hi.2.2.2.1 false] at a5; rw [upd_ne _ _ (Ne.symm hi.2.2.1)]
  obtain ⟨g, h1, h2⟩ := (h.e4 a4 a5)
  exact ⟨g, h1, h2.ext kx⟩
 ·intro a13 a14; rw [gset hi.2.2.2.2.1 false] at a13; rw [gset hi.2.2.2.2.2.1 false] at a14; rw [upd_ne _ _ (Ne.symm hi.2.2.2.2.1)]
  obtain ⟨g, h1, h2⟩ := (h.e13 a13 a14)
  exact ⟨g, h1, h2.ext kx⟩
 ·intro a0 a4 a2 a5; rw [gset hi.1 false] at a0; rw [gset hi.2.2.1 false] at a4; rw [gset hi.2.1 false] at a2; rw [gset hi.2.2.2.1 false] at a5; rw [upd_ne _ _ (Ne.symm hi.1)]; rw [upd_ne _ _ (Ne.symm hi.2.2.1)]
  exact h.d04 a0 a4 a2 a5
 ·intro a0 a13 a2 a14; rw [gset hi.1 false] at a0; rw [gset hi.2.2.2.2.1 false] at a13; rw [gset hi.2.1 false] at a2; rw [gset hi.2.2.2.2.2.1 false] at a14; rw [upd_ne _ _ (Ne.symm hi.1)]; rw [upd_ne _ _ (Ne.symm hi.2.2.2.2.1)]
  exact h.d013 a0 a13 a2 a14
 ·intro a2 a4 a5; rw [gset hi.2.1 false] at a2; rw [gset hi.2.2.1 false] at a4; rw [gset hi.2.2.2.1 false] at a5; rw [upd_ne _ _ (Ne.symm hi.2.1)]; rw [upd_ne _ _ (Ne.symm hi.2.2.1)]
  exact h.d24 a2 a4 a5
 ·intro a2 a13 a5 a14; rw [gset hi.2.1 false] at a2; rw [gset hi.2.2.2.2.1 false] at a13; rw [gset hi.2.2.2.1 false] at a5; rw [gset hi.2.2.2.2.2.1 false] at a14; rw [upd_ne _ _ (Ne.symm hi.2.1)]; rw [upd_ne _ _ (Ne.symm hi.2.2.2.2.1)]
  exact h.d213 a2 a13 a5 a14
 ·intro a5 a15; rw [gset hi.2.2.2.1 false] at a5; rw [gset hi.2.2.2.2.2.2 false] at a15; rw [upd_ne _ _ (Ne.symm hi.2.2.2.1)]
  exact kx.row (h.e5 a5 a15)
 ·intro a14 a15; rw [gset hi.2.2.2.2.2.1 false] at a14; rw [gset hi.2.2.2.2.2.2 false] at a15; rw [upd_ne _ _ (Ne.symm hi.2.2.2.2.2.1)]
  exact kx.row (h.e14 a14 a15)
 intro a15; rw [gset hi.2.2.2.2.2.2 false] at a15; rw [upd_ne _ _ (Ne.symm hi.2.2.2.2.2.2)]
 exact kx.row (h.e15 a15)
theorem S10.s0 (h : S10 wz gz A Bl E T l f w) (hl : 0 < l.size) (h2 : l.getD 2 false = false) (hv : v = .slice (some ⟨w.heap.size, 0, none⟩) 0 0) (kx : Ex w w') (hr : w'.ownsRow gz 83 10 v 0 []) : S10 wz gz A Bl E T (l.setIfInBounds 0 true) (upd f 0 v) w' := by
 refine ⟨Ex.trans h.ex kx, ?_, ?_, ?_, ?_, ?_, ?_, ?_, ?_, ?_, ?_, ?_⟩
 ·intro a0 a2; rw [gset (show (0 : Nat) ≠ 2 by decide) false] at a2
  rw [upd_same]; exact hr
 ·intro a2 a5; rw [gset (show (0 : Nat) ≠ 2 by decide) false] at a2; rw [gset (show (0 : Nat) ≠ 5 by decide) false] at a5; rw [upd_ne _ _ (show (2 : Nat) ≠ 0 by decide)]
  exact kx.row (h.e2 a2 a5)
 ·intro a4 a5; rw [gset (show (0 : Nat) ≠ 4 by decide) false] at a4; rw [gset (show (0 : Nat) ≠ 5 by decide) false] at a5; rw [upd_ne _ _ (show (4 : Nat) ≠ 0 by decide)]
  obtain ⟨g, h1, h2⟩ := (h.e4 a4 a5)
  exact ⟨g, h1, h2.ext kx⟩
 ·intro a13 a14; rw [gset (show (0 : Nat) ≠ 13 by decide) false] at a13; rw [gset (show (0 : Nat) ≠ 14 by decide) false] at a14; rw [upd_ne _ _ (show (13 : Nat) ≠ 0 by decide)]
  obtain ⟨g, h1, h2⟩ := (h.e13 a13 a14)
  exact ⟨g, h1, h2.ext kx⟩
 ·intro a0 a4 a2 a5; rw [gset (show (0 : Nat) ≠ 4 by decide) false] at a4; rw [gset (show (0 : Nat) ≠ 2 by decide) false] at a2; rw [gset (show (0 : Nat) ≠ 5 by decide) false] at a5
  rw [upd_same, upd_ne _ _ (show (4 : Nat) ≠ 0 by decide)]
  obtain ⟨g, h1, h3⟩ := h.e4 a4 a5
  rw [(blk_one h3 h1).1, hv]; intro e; have := (blk_one h3 h1).2; have e : some w.heap.size = some g := e; injection e; omega
 ·intro a0 a13 a2 a14; rw [gset (show (0 : Nat) ≠ 13 by decide) false] at a13; rw [gset (show (0 : Nat) ≠ 2 by decide) false] at a2; rw [gset (show (0 : Nat) ≠ 14 by decide) false] at a14
  rw [upd_same, upd_ne _ _ (show (13 : Nat) ≠ 0 by decide)]
  obtain ⟨g, h1, h3⟩ := h.e13 a13 a14
  rw [(blk_one h3 h1).1, hv]; intro e; have := (blk_one h3 h1).2; have e : some w.heap.size = some g := e; injection e; omega
 ·intro a2 a4 a5; rw [gset (show (0 : Nat) ≠ 2 by decide) false] at a2; rw [gset (show (0 : Nat) ≠ 4 by decide) false] at a4; rw [gset (show (0 : Nat) ≠ 5 by decide) false] at a5; rw [upd_ne _ _ (show (2 : Nat) ≠ 0 by decide)]; rw [upd_ne _ _ (show (4 : Nat) ≠ 0 by decide)]
  exact h.d24 a2 a4 a5
 ·intro a2 a13 a5 a14; rw [gset (show (0 : Nat) ≠ 2 by decide) false] at a2; rw [gset (show (0 : Nat) ≠ 13 by decide) false] at a13; rw [gset (show (0 : Nat) ≠ 5 by decide) false] at a5; rw [gset (show (0 : Nat) ≠ 14 by decide) false] at a14; rw [upd_ne _ _ (show (2 : Nat) ≠ 0 by decide)]; rw [upd_ne _ _ (show (13 : Nat) ≠ 0 by decide)]
  exact h.d213 a2 a13 a5 a14
 ·intro a5 a15; rw [gset (show (0 : Nat) ≠ 5 by decide) false] at a5; rw [gset (show (0 : Nat) ≠ 15 by decide) false] at a15; rw [upd_ne _ _ (show (5 : Nat) ≠ 0 by decide)]
  exact kx.row (h.e5 a5 a15)
 ·intro a14 a15; rw [gset (show (0 : Nat) ≠ 14 by decide) false] at a14; rw [gset (show (0 : Nat) ≠ 15 by decide) false] at a15; rw [upd_ne _ _ (show (14 : Nat) ≠ 0 by decide)]
  exact kx.row (h.e14 a14 a15)
 intro a15; rw [gset (show (0 : Nat) ≠ 15 by decide) false] at a15; rw [upd_ne _ _ (show (15 : Nat) ≠ 0 by decide)]
 exact kx.row (h.e15 a15)
theorem S10.s2 (h : S10 wz gz A Bl E T l f w) (hl : 2 < l.size) (h0 : l.getD 0 false = true) (h2f : l.getD 2 false = false) (h5 : l.getD 5 false = false) (h14 : l.getD 14 false = false) (h15 : l.getD 15 false = false) (hx : Ex wz w') (kg : w.grownBy w' (f 0).ownBlock) (hlie : Lies w (f 0) v) (hr : w'.ownsRow gz 83 10 v A.length (A.flatMap Rt.C)) : S10 wz gz A Bl E T (l.setIfInBounds 2 true) (upd f 2 v) w' := by
 refine ⟨hx, ?_, ?_, ?_, ?_, ?_, ?_, ?_, ?_, ?_, ?_, ?_⟩
 ·intro a0 a2; rw [set_new hl] at a2; cases a2
 ·intro a2 a5; rw [gset (show (2 : Nat) ≠ 5 by decide) false] at a5
  rw [upd_same]; exact hr
 ·intro a4 a5; rw [gset (show (2 : Nat) ≠ 4 by decide) false] at a4; rw [gset (show (2 : Nat) ≠ 5 by decide) false] at a5; rw [upd_ne _ _ (show (4 : Nat) ≠ 2 by decide)]
  obtain ⟨g, h1, h2⟩ := (h.e4 a4 a5)
  refine ⟨g, h1, grown_bk kg h2 ?_⟩
  have h3 := h.d04 h0 a4 h2f a5
  rw [(blk_one h2 h1).1] at h3; exact h3
 ·intro a13 a14; rw [gset (show (2 : Nat) ≠ 13 by decide) false] at a13; rw [gset (show (2 : Nat) ≠ 14 by decide) false] at a14; rw [upd_ne _ _ (show (13 : Nat) ≠ 2 by decide)]
  obtain ⟨g, h1, h2⟩ := (h.e13 a13 a14)
  refine ⟨g, h1, grown_bk kg h2 ?_⟩
  have h3 := h.d013 h0 a13 h2f a14
  rw [(blk_one h2 h1).1] at h3; exact h3
 ·intro a0 a4 a2 a5; rw [set_new hl] at a2; cases a2
 ·intro a0 a13 a2 a14; rw [set_new hl] at a2; cases a2
 ·intro a2 a4 a5; rw [gset (show (2 : Nat) ≠ 4 by decide) false] at a4; rw [gset (show (2 : Nat) ≠ 5 by decide) false] at a5
  rw [upd_same, upd_ne _ _ (show (4 : Nat) ≠ 2 by decide)]
  obtain ⟨g, h1, h3⟩ := h.e4 a4 a5
  rw [(blk_one h3 h1).1]
  have h4 := h.d04 h0 a4 h2f a5
  rw [(blk_one h3 h1).1] at h4
  rcases hlie with h5 | h5
  ·rw [h5]; exact h4
  intro e; have := h5 g e; have := (blk_one h3 h1).2; omega
 ·intro a2 a13 a5 a14; rw [gset (show (2 : Nat) ≠ 13 by decide) false] at a13; rw [gset (show (2 : Nat) ≠ 5 by decide) false] at a5; rw [gset (show (2 : Nat) ≠ 14 by decide) false] at a14
  rw [upd_same, upd_ne _ _ (show (13 : Nat) ≠ 2 by decide)]
  obtain ⟨g, h1, h3⟩ := h.e13 a13 a14
  rw [(blk_one h3 h1).1]
  have h4 := h.d013 h0 a13 h2f a14
  rw [(blk_one h3 h1).1] at h4
  rcases hlie with h5 | h5
  ·rw [h5]; exact h4
  intro e; have := h5 g e; have := (blk_one h3 h1).2; omega
 ·intro a5 a15; rw [gset (show (2 : Nat) ≠ 5 by decide) false] at a5; rw [gset (show (2 : Nat) ≠ 15 by decide) false] at a15
  exact absurd (h5.symm.trans a5) (by decide)
 ·intro a14 a15; rw [gset (show (2 : Nat) ≠ 14 by decide) false] at a14; rw [gset (show (2 : Nat) ≠ 15 by decide) false] at a15
  exact absurd (h14.symm.trans a14) (by decide)
 intro a15; rw [gset (show (2 : Nat) ≠ 15 by decide) false] at a15
 exact absurd (h15.symm.trans a15) (by decide)
theorem S10.s5 (h : S10 wz gz A Bl E T l f w) (hl : 5 < l.size) (h2 : l.getD 2 false = true) (h5 : l.getD 5 false = false) (h14 : l.getD 14 false = false) (h15 : l.getD 15 false = false) (hx : Ex wz w') (kg : w.grownBy w' (f 2).ownBlock) (hr : w'.ownsRow gz 83 10 v (A.length + 1) (A.flatMap Rt.C ++ E.C)) : S10 wz gz A Bl E T (l.setIfInBounds 5 true) (upd f 5 v) w' := by
 refine ⟨hx, ?_, ?_, ?_, ?_, ?_, ?_, ?_, ?_, ?_, ?_, ?_⟩
 ·intro a0 a2; rw [gset (show (5 : Nat) ≠ 0 by decide) false] at a0; rw [gset (show (5 : Nat) ≠ 2 by decide) false] at a2
  exact absurd (h2.symm.trans a2) (by decide)
 ·intro a2 a5; rw [set_new hl] at a5; cases a5
 ·intro a4 a5; rw [set_new hl] at a5; cases a5
 ·intro a13 a14; rw [gset (show (5 : Nat) ≠ 13 by decide) false] at a13; rw [gset (show (5 : Nat) ≠ 14 by decide) false] at a14; rw [upd_ne _ _ (show (13 : Nat) ≠ 5 by decide)]
  obtain ⟨g, h1, h3⟩ := (h.e13 a13 a14)
  refine ⟨g, h1, grown_bk kg h3 ?_⟩
  have h4 := h.d213 h2 a13 h5 a14
  rw [(blk_one h3 h1).1] at h4; exact h4
 ·intro a0 a4 a2 a5; rw [set_new hl] at a5; cases a5
 ·intro a0 a13 a2 a14; rw [gset (show (5 : Nat) ≠ 0 by decide) false] at a0; rw [gset (show (5 : Nat) ≠ 13 by decide) false] at a13; rw [gset (show (5 : Nat) ≠ 2 by decide) false] at a2; rw [gset (show (5 : Nat) ≠ 14 by decide) false] at a14
  exact absurd (h2.symm.trans a2) (by decide)
 ·intro a2 a4 a5; rw [set_new hl] at a5; cases a5
 ·intro a2 a13 a5 a14; rw [set_new hl] at a5; cases a5
 ·intro a5 a15; rw [gset (show (5 : Nat) ≠ 15 by decide) false] at a15
  rw [upd_same]; exact hr
 ·intro a14 a15; rw [gset (show (5 : Nat) ≠ 14 by decide) false] at a14; rw [gset (show (5 : Nat) ≠ 15 by decide) false] at a15
  exact absurd (h14.symm.trans a14) (by decide)
 intro a15; rw [gset (show (5 : Nat) ≠ 15 by decide) false] at a15
 exact absurd (h15.symm.trans a15) (by decide)
end
end Go.Proofs.Ytmjfnpmnhehnkaa
namespace Go.Proofs.Ytmjfnpmnhehnkaa
open Go.RowKit
theorem AfterP.left {a b : List Rt} (h : AfterP a) : AfterP (a ++ b) := by
 obtain ⟨i, k, x, y, h1, h2, h3, h4, h5, h6, h7⟩ := h
 exact ⟨i, k, x, y, h1, by rw [List.length_append]; omega, by rw [List.getElem?_append_left (by omega)]; exact h3, by rw [List.getElem?_append_left h2]; exact h4, h5, h6, h7⟩
theorem AfterP.right {a b : List Rt} (h : AfterP b) : AfterP (a ++ b) := by
 obtain ⟨i, k, x, y, h1, h2, h3, h4, h5, h6, h7⟩ := h
 exact ⟨a.length + i, a.length + k, x, y, by omega, by rw [List.length_append]; omega, by rw [List.getElem?_append_right (by omega), Nat.add_sub_cancel_left]; exact h3, by rw [List.getElem?_append_right (by omega), Nat.add_sub_cancel_left]; exact h4, h5, h6, h7⟩
noncomputable def aftB (l : List Rt) : Bool := @decide (AfterP l) (Classical.propDecidable _)
theorem aftB_iff (l : List Rt) : aftB l = true ↔ AfterP l := @decide_eq_true_iff _ (Classical.propDecidable _)
theorem aft_any (ad : Option Addr) (cap : Nat) (l : List Rt) (w : World) (hL : l.length ≤ 9223372036854775807) (hin : Rp.In ad cap l w) : Calls Try.prog 49 #[.slice ad l.length cap] w fun e w' => e = .returned (.bool (aftB l)) ∧ Ex w w' := by
 refine (after_any ad cap l w hL hin).mono ?_
 rintro e w' ⟨z, rfl, h1, h2⟩
 have : z = aftB l := Bool.eq_iff_iff.2 (h1.trans (aftB_iff l).symm)
 exact ⟨by rw [this], h2⟩
def SN9 (w : World) (p : Pt) : Prop := p.In w w.heap.size ∧ ∀ a, p.ad = some a → ∃ cs fr, w.heap[a.block]? = some (.cells cs 5 fr)
theorem SN9.ext {w w' : World} {p : Pt} (h : SN9 w p) (k : Ex w w') : SN9 w' p := ⟨h.1.ext k, fun a e => by obtain ⟨cs, fr, hc⟩ := h.2 a e; exact ⟨cs, fr, (k.block _ (blk_lt hc)).trans hc⟩⟩
def R20 (w : World) (v : Value) (l : List Rt) : Prop := l.length ≤ 20 ∧ ∃ ad cap, v = .slice ad l.length cap ∧ Rp.In ad cap l w
theorem R20.ext {w w' : World} {v : Value} {l : List Rt} (h : R20 w v l) (k : Ex w w') : R20 w' v l := by
 obtain ⟨h1, ad, cap, h2, h3⟩ := h
 exact ⟨h1, ad, cap, h2, h3.ext k⟩
end Go.Proofs.Ytmjfnpmnhehnkaa
