/- Jo -/
import Derived.Test.YtmjfnpmnhehnkaaXbi
namespace Go.Proofs.Ytmjfnpmnhehnkaa.K
open Go.RowKit
structure PB (w0 w : World) (P : Nat) (rv : Value) (xs : List Vt) : Prop where
 blk : Bk w P 147 #[rv]
 row : w.ownsRow w0.heap.size 36 42 rv xs.length (xs.flatMap Vt.C)
 ins : ∀ (i : Nat) (x : Vt), xs[i]? = some x → PX w0 w x
 lo : w0.heap.size ≤ P
 sz : w0.heap.size ≤ w.heap.size
theorem PB.ext {w0 w w' : World} {P : Nat} {rv : Value} {xs : List Vt} (h : PB w0 w P rv xs) (k : Ex w w') : PB w0 w' P rv xs :=
 ⟨h.blk.ext k, k.row h.row, fun i x hx => ⟨(h.ins i x hx).ok, (h.ins i x hx).sec.ext h.sz k, (h.ins i x hx).len⟩, h.lo, Nat.le_trans h.sz (Below.size k)⟩
theorem PB.inn {w0 w : World} {P : Nat} {rv : Value} {xs : List Vt} (h : PB w0 w P rv xs) : ∃ ad cap, rv = .slice ad xs.length cap ∧ Vp.In ad cap xs w ∧ cap ≤ 9223372036854775807 := by
 have hok : ∀ (i : Nat) (x : Vt), xs[i]? = some x → x.Ok := fun i x hx => (h.ins i x hx).ok
 obtain ⟨ad2, cap2, e2, _, _, hc9, _⟩ := own_rd h.row
 obtain ⟨_, ⟨h1, ⟨hv, h0⟩ | ⟨g, cap, cur, rfl, hb, hh, hc, hm, hs, ht⟩⟩, _⟩ := h
 ·exact ⟨none, 0, by rw [h0]; exact hv, ⟨by rw [h0]; exact Nat.le_refl 0, fun _ => rfl, hok, fun h => by omega⟩, by decide⟩
 have hc9 : cap ≤ 9223372036854775807 := by cases e2; exact hc9
 refine ⟨some ⟨g, 0, none⟩, cap, rfl, ⟨hc, (fun h => by cases h), hok, fun _ => ⟨g, 0, rfl, (show Bk w g 36 cur from hh).lt, fun i x hx j u hu => ?_⟩⟩, hc9⟩
 have hil : i < xs.length := (List.getElem?_eq_some_iff.1 hx).1
 have hj : j < 42 := by have := (List.getElem?_eq_some_iff.1 hu).1; rw [Vt.len (hok i x hx)] at this; exact this
 have h3 := vflat_at xs hok i j x hx hj
 rw [← ht, hu, List.getElem?_take, if_pos (by omega)] at h3
 rw [(show Bk w g 36 cur from hh).cell, Nat.zero_add, ← Array.getElem?_toList]
 exact h3
def PDoPost (w0 : World) (P : Nat) (rv : Value) (xs : List Vt) (q : Qt) (w : World) (e : Ending) (w' : World) : Prop := ∃ (y : Rt) (rv' : Value) (xs' : List Vt), e = .returned y.V ∧ y.Ok ∧ PN w' w.heap.size y.sec ∧ PB w0 w' P rv' xs' ∧ PStep xs q.ct y.ct xs' ∧ Md P w w' ∧ Lies w rv rv'
theorem PB.kt {S : List Nat} {w0 w w' : World} {P : Nat} {rv : Value} {xs : List Vt} (h : PB w0 w P rv xs) (k : Kt S w0.heap.size w w') (h1 : 147 ∉ S) (h2 : 36 ∉ S) (h3 : 5 ∉ S) : PB w0 w' P rv xs :=
 ⟨k.bk h.blk h1, k.row h.row h2, fun i x hx => ⟨(h.ins i x hx).ok, (h.ins i x hx).sec.kt k h3, (h.ins i x hx).len⟩, h.lo, Nat.le_trans h.sz k.size⟩
theorem getp_px {w0 w : World} {P : Nat} {rv : Value} {xs : List Vt} (h : PB w0 w P rv xs) {id : List UInt8} {x : Vt} {k : Int} (hg : GetP xs id x k) : PX w0 w x := by
 rcases hg with ⟨_, rfl, _⟩ | ⟨j, _, hx, _⟩
 ·exact ⟨zeroVt_ok, Or.inr (nilB_pn _ _), by decide⟩
 exact h.ins j x hx
structure F12 (w0 w : World) (P B g8 : Nat) (r : Rt) (rv : Value) (xs : List Vt) (wz : World) : Prop where
 blk : Bk wz P 147 #[rv]
 row : wz.ownsRow w.heap.size 36 42 rv xs.length (xs.flatMap Vt.C)
 ins : ∀ x ∈ xs, PX w0 wz x
 rb : RB wz g8 r
 rs : PN wz w.heap.size r.sec
 r0 : RB wz B zeroRt
 md : Md P w wz
theorem F12.kt {w0 w : World} {P B g8 : Nat} {r : Rt} {rv rv' : Value} {xs xs' : List Vt} {wz w' : World} (h : F12 w0 w P B g8 r rv xs wz) (k : Kt [36] w.heap.size wz w') (hP : P < w.heap.size) (h0 : w0.heap.size ≤ w.heap.size) (hb : Bk w' P 147 #[rv']) (hr : w'.ownsRow w.heap.size 36 42 rv' xs'.length (xs'.flatMap Vt.C)) (hx : ∀ x ∈ xs', x ∈ xs ∨ PX w0 wz x) : F12 w0 w P B g8 r rv' xs' w' :=
 ⟨hb, hr, fun x hi => by
  rcases hx x hi with hm | hp
  ·exact (h.ins x hm).kt (k.less h0) (by decide)
  ·exact hp.kt (k.less h0) (by decide), ⟨h.rb.1, k.bk h.rb.2 (by decide)⟩, h.rs.kt k (by decide), ⟨h.r0.1, k.bk h.r0.2 (by decide)⟩, h.md.then k.below hP⟩
theorem F12.ext {w0 w : World} {P B g8 : Nat} {r : Rt} {rv : Value} {xs : List Vt} {wz w' : World} (h : F12 w0 w P B g8 r rv xs wz) (k : Ex wz w') (hP : P < w.heap.size) (h0 : w0.heap.size ≤ w.heap.size) : F12 w0 w P B g8 r rv xs w' :=
 h.kt (k.kt h.md.size) hP h0 (h.blk.ext k) (k.row h.row) (fun _ hx => Or.inl hx)
theorem F12.pb {w0 w : World} {P B g8 : Nat} {r : Rt} {rv : Value} {xs : List Vt} {wz : World} (h : F12 w0 w P B g8 r rv xs wz) (lo : w0.heap.size ≤ P) (h0 : w0.heap.size ≤ w.heap.size) : PB w0 wz P rv xs :=
 ⟨h.blk, rown_less h.row h0, fun i x hx => h.ins x (List.mem_of_getElem? hx), lo, Nat.le_trans h0 h.md.size⟩
theorem F12.st {w0 w : World} {P B g8 : Nat} {r : Rt} {rv rv' : Value} {xs xs' : List Vt} {wz w' : World} (h : F12 w0 w P B g8 r rv xs wz) (lo : w0.heap.size ≤ P) (hb : Bk w' P 147 #[rv']) (ho : Only P wz w') (hr : wz.ownsRow w.heap.size 36 42 rv' xs'.length (xs'.flatMap Vt.C)) (hx : ∀ x ∈ xs', PX w0 wz x) : F12 w0 w P B g8 r rv' xs' w' := by
 have k : Kt [147] w0.heap.size wz w' := Kt.md ho.md lo h.blk (List.mem_singleton.2 rfl)
 exact ⟨hb, k.row hr (by decide), fun x hi => (hx x hi).kt k (by decide), ⟨h.rb.1, k.bk h.rb.2 (by decide)⟩, h.rs.kt k (by decide), ⟨h.r0.1, k.bk h.r0.2 (by decide)⟩, h.md.trans ho.md⟩
theorem F12.set {w0 w : World} {P B g8 : Nat} {r : Rt} {rv : Value} {xs : List Vt} {wz : World} (h : F12 w0 w P B g8 r rv xs wz) (hP : P < w.heap.size) (h0 : w0.heap.size ≤ w.heap.size) (p : Nat) (hp : p < xs.length) : ∃ (g cap : Nat) (C : List Value), rv = .slice (some ⟨g, 0, none⟩) xs.length cap ∧ Bk wz g 36 C.toArray ∧ p * 42 + 42 ≤ C.length ∧
  ∀ z, PX w0 wz z → ∀ w', Bk w' g 36 (C.take (p * 42) ++ z.C ++ C.drop (p * 42 + z.C.length)).toArray → Only g wz w' → F12 w0 w P B g8 r rv (xs.set p z) w' := by
 obtain ⟨g, cap, C, hv, hB, hb, hl, _, hset⟩ := own_store h.row p hp
 refine ⟨g, cap, C, hv, hb, hl, fun z hz w' hd ho => ?_⟩
 have hk : Kt [36] w.heap.size wz w' := Kt.md ho.md hB hb (List.mem_singleton.2 rfl)
 refine h.kt hk hP h0 (hk.bk h.blk (by decide)) ?_ (fun x hx => ?_)
 ·rw [vflat_set (fun i x hx => (h.ins x (List.mem_of_getElem? hx)).ok) p hp z hz.ok, List.length_set]
  exact hset z.C (Vt.len hz.ok) w' hd
 rcases List.mem_or_eq_of_mem_set hx with hm | rfl
 ·exact Or.inl hm
 exact Or.inr hz
structure G12 (w0 w : World) (P B g8 : Nat) (r : Rt) (rv : Value) (wz : World) : Prop where
 blk : Bk wz P 147 #[rv]
 rb : RB wz g8 r
 rs : PN wz w.heap.size r.sec
 r0 : RB wz B zeroRt
 md : Md P w wz
theorem G12.st {w0 w : World} {P B g8 : Nat} {r : Rt} {rv rv' : Value} {xs' : List Vt} {wz w' : World} (h : G12 w0 w P B g8 r rv wz) (lo : w0.heap.size ≤ P) (hb : Bk w' P 147 #[rv']) (ho : Only P wz w') (hr : wz.ownsRow w.heap.size 36 42 rv' xs'.length (xs'.flatMap Vt.C)) (hx : ∀ x ∈ xs', PX w0 wz x) : F12 w0 w P B g8 r rv' xs' w' := by
 have k : Kt [147] w0.heap.size wz w' := Kt.md ho.md lo h.blk (List.mem_singleton.2 rfl)
 exact ⟨hb, k.row hr (by decide), fun x hi => (hx x hi).kt k (by decide), ⟨h.rb.1, k.bk h.rb.2 (by decide)⟩, h.rs.kt k (by decide), ⟨h.r0.1, k.bk h.r0.2 (by decide)⟩, h.md.trans ho.md⟩
def St12 (w0 w w10 : World) (P B g8 : Nat) (r : Rt) (rv : Value) (xs' : List Vt) (b : Bool) (wz : World) : Prop := (b = false → Ex w10 wz) ∧ (b = true → F12 w0 w P B g8 r rv xs' wz)
theorem G12.ext {w0 w : World} {P B g8 : Nat} {r : Rt} {rv : Value} {wz w' : World} (h : G12 w0 w P B g8 r rv wz) (k : Ex wz w') (hP : P < w.heap.size) : G12 w0 w P B g8 r rv w' :=
  ⟨h.blk.ext k, h.rb.ext k, h.rs.ext k, h.r0.ext k, h.md.then (k.mono h.md.size) hP⟩
structure S18 (w0 w w10 : World) (P B g8 : Nat) (r : Rt) (rv1 : Value) (xs : List Vt) (z : Vt) (l : Array Bool) (f : Nat → Value) (wz : World) : Prop where
  pre : l.getD 9 false = false → Ex w10 wz
  e1 : l.getD 1 false = true → l.getD 6 false = false → Emp w.heap.size wz 36 (f 1)
  e6 : l.getD 6 false = true → l.getD 9 false = false → wz.ownsRow w.heap.size 36 42 (f 6) xs.length (xs.flatMap Vt.C)
  e8 : l.getD 8 false = true → l.getD 9 false = false → ∃ g, f 8 = .slice (some ⟨g, 0, none⟩) 1 1 ∧ Bk wz g 36 z.C.toArray
  e9 : l.getD 9 false = true → l.getD 12 false = false → wz.ownsRow w.heap.size 36 42 (f 9) (xs ++ [z]).length ((xs ++ [z]).flatMap Vt.C) ∧ (∀ x ∈ xs ++ [z], PX w0 wz x) ∧ G12 w0 w P B g8 r rv1 wz
  fin : l.getD 12 false = true → ∃ rv, F12 w0 w P B g8 r rv (xs ++ [z]) wz
section
variable {w0 w w10 : World} {P B g8 : Nat} {r : Rt} {rv1 : Value} {xs : List Vt} {z : Vt} {l : Array Bool} {f : Nat → Value} {wz w' : World} {x : Value}
theorem S18.plain (h : S18 w0 w w10 P B g8 r rv1 xs z l f wz) (i : Nat) (hi : i ≠ 1 ∧ i ≠ 6 ∧ i ≠ 8 ∧ i ≠ 9 ∧ i ≠ 12) : S18 w0 w w10 P B g8 r rv1 xs z (l.setIfInBounds i true) (upd f i x) wz := by
  refine ⟨?_, ?_, ?_, ?_, ?_, ?_⟩
  · rw [gset hi.2.2.2.1 false]; exact h.pre
  · rw [gset hi.1 false, gset hi.2.1 false, upd_ne _ _ (Ne.symm hi.1)]; exact h.e1
  · rw [gset hi.2.1 false, gset hi.2.2.2.1 false, upd_ne _ _ (Ne.symm hi.2.1)]; exact h.e6
  · rw [gset hi.2.2.1 false, gset hi.2.2.2.1 false, upd_ne _ _ (Ne.symm hi.2.2.1)]; exact h.e8
  · rw [gset hi.2.2.2.1 false, gset hi.2.2.2.2 false, upd_ne _ _ (Ne.symm hi.2.2.2.1)]; exact h.e9
  rw [gset hi.2.2.2.2 false]; exact h.fin
theorem S18.s1 (h : S18 w0 w w10 P B g8 r rv1 xs z l f wz) (h6 : l.getD 6 false = false) (h9 : l.getD 9 false = false) (h12 : l.getD 12 false = false) (hs : w.heap.size ≤ wz.heap.size) : S18 w0 w w10 P B g8 r rv1 xs z (l.setIfInBounds 1 true) (upd f 1 (.slice (some ⟨wz.heap.size, 0, none⟩) 0 0)) (wz.alloc (.cells #[] 36)) := by
  refine ⟨?_, ?_, ?_, ?_, ?_, ?_⟩
  · rw [gset (by decide) false]; exact fun e => Ex.trans (h.pre e) (Ex.alloc _ _)
  · rw [upd_same]; exact fun _ _ => ⟨_, rfl, hs, Bk.new rfl _ _⟩
  · rw [gset (by decide) false, h6]; intro e; cases e
  · rw [gset (by decide) false, gset (by decide) false, upd_ne _ _ (by decide)]; intro a b; obtain ⟨g, h1, h2⟩ := h.e8 a b; exact ⟨g, h1, h2.ext (Ex.alloc _ _)⟩
  · rw [gset (by decide) false, h9]; intro e; cases e
  rw [gset (by decide) false, h12]; intro e; cases e
theorem S18.s6 (h : S18 w0 w w10 P B g8 r rv1 xs z l f wz) (hl : 6 < l.size) (h9 : l.getD 9 false = false) (h12 : l.getD 12 false = false) (k : Ex wz w') (hr : w'.ownsRow w.heap.size 36 42 x xs.length (xs.flatMap Vt.C)) : S18 w0 w w10 P B g8 r rv1 xs z (l.setIfInBounds 6 true) (upd f 6 x) w' := by
  refine ⟨?_, ?_, ?_, ?_, ?_, ?_⟩
  · rw [gset (by decide) false]; exact fun e => Ex.trans (h.pre e) k
  · rw [set_new hl]; intro _ e; cases e
  · rw [upd_same]; exact fun _ _ => hr
  · rw [gset (by decide) false, gset (by decide) false, upd_ne _ _ (by decide)]; intro a b; obtain ⟨g, h1, h2⟩ := h.e8 a b; exact ⟨g, h1, h2.ext k⟩
  · rw [gset (by decide) false, h9]; intro e; cases e
  rw [gset (by decide) false, h12]; intro e; cases e
theorem S18.s8 (h : S18 w0 w w10 P B g8 r rv1 xs z l f wz) (h9 : l.getD 9 false = false) (h12 : l.getD 12 false = false) : S18 w0 w w10 P B g8 r rv1 xs z (l.setIfInBounds 8 true) (upd f 8 (.slice (some ⟨wz.heap.size, 0, none⟩) 1 1)) (wz.alloc (.cells z.C.toArray 36)) := by
  refine ⟨?_, ?_, ?_, ?_, ?_, ?_⟩
  · rw [gset (by decide) false]; exact fun e => Ex.trans (h.pre e) (Ex.alloc _ _)
  · rw [gset (by decide) false, gset (by decide) false, upd_ne _ _ (by decide)]; intro a b; obtain ⟨g, h1, h2, h3⟩ := h.e1 a b; exact ⟨g, h1, h2, h3.ext (Ex.alloc _ _)⟩
  · rw [gset (by decide) false, gset (by decide) false, upd_ne _ _ (by decide)]; exact fun a b => (Ex.alloc _ _).row (h.e6 a b)
  · rw [upd_same]; exact fun _ _ => ⟨_, rfl, Bk.new rfl _ _⟩
  · rw [gset (by decide) false, h9]; intro e; cases e
  rw [gset (by decide) false, h12]; intro e; cases e
theorem S18.s9 (h : S18 w0 w w10 P B g8 r rv1 xs z l f wz) (hl : 9 < l.size) (h6 : l.getD 6 false = true) (h12 : l.getD 12 false = false) (hr : w'.ownsRow w.heap.size 36 42 x (xs ++ [z]).length ((xs ++ [z]).flatMap Vt.C)) (hx : ∀ x ∈ xs ++ [z], PX w0 w' x) (hf : G12 w0 w P B g8 r rv1 w') : S18 w0 w w10 P B g8 r rv1 xs z (l.setIfInBounds 9 true) (upd f 9 x) w' := by
  refine ⟨?_, ?_, ?_, ?_, ?_, ?_⟩
  · rw [set_new hl]; intro e; cases e
  · rw [gset (show (9 : Nat) ≠ 6 by decide) false, h6]; intro _ e; cases e
  · rw [set_new hl]; intro _ e; cases e
  · rw [set_new hl]; intro _ e; cases e
  · rw [upd_same]; exact fun _ _ => ⟨hr, hx, hf⟩
  rw [gset (by decide) false, h12]; intro e; cases e
theorem S18.s12 (hl : 12 < l.size) (h6 : l.getD 6 false = true) (h9 : l.getD 9 false = true) (hf : ∃ rv, F12 w0 w P B g8 r rv (xs ++ [z]) w') : S18 w0 w w10 P B g8 r rv1 xs z (l.setIfInBounds 12 true) (upd f 12 x) w' := by
  refine ⟨?_, ?_, ?_, ?_, ?_, ?_⟩
  · rw [gset (by decide) false, h9]; intro e; cases e
  · rw [gset (show (12 : Nat) ≠ 6 by decide) false, h6]; intro _ e; cases e
  · rw [gset (show (12 : Nat) ≠ 9 by decide) false, h9]; intro _ e; cases e
  · rw [gset (show (12 : Nat) ≠ 9 by decide) false, h9]; intro _ e; cases e
  · rw [set_new hl]; intro _ e; cases e
  exact fun _ => hf
end
end Go.Proofs.Ytmjfnpmnhehnkaa.K
