/- Wg, Wh, Wi, Wj, Wk, Wl -/
import Derived.Test.YtmjfnpmnhehnkaaPas
import Derived.Test.YtmjfnpmnhehnkaaPas
import Derived.Test.YtmjfnpmnhehnkaaPas
namespace Go.Proofs.Ytmjfnpmnhehnkaa
open Go.RowKit
def PStep (xs : List Vt) (q : Qc) (y : Rc) (xs' : List Vt) : Prop :=
 (q.right = false ∧ y = errRc ∧ xs' = xs) ∨ (q.right = true ∧ ∃ (x : Vt) (k : Int), GetP xs q.id x k ∧ Kept q.id x.ct ∧
  (((doC x.ct q).2.2 = false ∧ y = (doC x.ct q).2.1 ∧ xs' = xs) ∨
  ((doC x.ct q).2.2 = true ∧ k < 0 ∧ 4 ≤ cntS xs q.id ∧ y = (repRt 13 q.id q.client q.num).ct ∧ xs' = xs) ∨
  ((doC x.ct q).2.2 = true ∧ y = (doC x.ct q).2.1 ∧ ∃ z : Vt, z.ct = (doC x.ct q).1 ∧ ((k < 0 ∧ cntS xs q.id < 4 ∧ xs' = xs ++ [z]) ∨ ∃ j : Nat, k = (j : Int) ∧ j < xs.length ∧ xs' = xs.set j z))))
def PDoPost (w0 : World) (P : Nat) (rv : Value) (xs : List Vt) (q : Qt) (w : World) (e : Ending) (w' : World) : Prop := ∃ (y : Rt) (rv' : Value) (xs' : List Vt), e = .returned y.V ∧ y.Ok ∧ PN w' w.heap.size y.sec ∧ PB w0 w' P rv' xs' ∧ PStep xs q.ct y.ct xs' ∧ Md P w w' ∧ Lies w rv rv'
theorem Md.then {P : Nat} {w a b : World} (h : Md P w a) (k : Below w.heap.size a b) (hP : P < w.heap.size) : Md P w b :=
 ⟨fun B hB x hx => Below.trans (h.below B hB x hx) (k.mono (by omega)), fun i hi hl => (k.block i hl).trans (h.other i hi hl), Nat.le_trans h.size k.size⟩
theorem PB.kt {S : List Nat} {w0 w w' : World} {P : Nat} {rv : Value} {xs : List Vt} (h : PB w0 w P rv xs) (k : Kt S w0.heap.size w w') (h1 : 134 ∉ S) (h2 : 36 ∉ S) (h3 : 5 ∉ S) : PB w0 w' P rv xs :=
 ⟨k.bk h.blk h1, k.row h.row h2, fun i x hx => ⟨(h.ins i x hx).ok, (h.ins i x hx).sec.kt k h3, (h.ins i x hx).len⟩, h.lo, Nat.le_trans h.sz k.size⟩
theorem PX.vi {w0 w : World} {x : Vt} (h : PX w0 w x) (hs : w0.heap.size ≤ w.heap.size) : VI w x := ⟨h.ok, h.sec.inn hs⟩
/-- the map anew, the answer, where it goes -/
structure F12 (w0 w : World) (P B g8 : Nat) (r : Rt) (rv : Value) (xs : List Vt) (wz : World) : Prop where
 blk : Bk wz P 134 #[rv]
 row : wz.ownsRow w.heap.size 36 42 rv xs.length (xs.flatMap Vt.C)
 ins : ∀ x ∈ xs, PX w0 wz x
 rb : RB wz g8 r
 rs : PN wz w.heap.size r.sec
 r0 : RB wz B zeroRt
 md : Md P w wz
theorem PX.kt {S : List Nat} {w0 w w' : World} {x : Vt} (h : PX w0 w x) (k : Kt S w0.heap.size w w') (hu : 5 ∉ S) : PX w0 w' x := ⟨h.ok, h.sec.kt k hu, h.len⟩
theorem Kt.less {S : List Nat} {B B' : Nat} {w w' : World} (h : Kt S B w w') (hB : B' ≤ B) : Kt S B' w w' := ⟨h.below.mono hB, h.typ⟩
/-- vaults alone are turned, and what's new; the row is another one -/
theorem F12.kt {w0 w : World} {P B g8 : Nat} {r : Rt} {rv rv' : Value} {xs xs' : List Vt} {wz w' : World} (h : F12 w0 w P B g8 r rv xs wz) (k : Kt [36] w.heap.size wz w') (hP : P < w.heap.size) (h0 : w0.heap.size ≤ w.heap.size) (hb : Bk w' P 134 #[rv']) (hr : w'.ownsRow w.heap.size 36 42 rv' xs'.length (xs'.flatMap Vt.C)) (hx : ∀ x ∈ xs', x ∈ xs ∨ PX w0 wz x) : F12 w0 w P B g8 r rv' xs' w' :=
 ⟨hb, hr, fun x hi => by
  rcases hx x hi with hm | hp
  ·exact (h.ins x hm).kt (k.less h0) (by decide)
  exact hp.kt (k.less h0) (by decide), ⟨h.rb.1, k.bk h.rb.2 (by decide)⟩, h.rs.kt k (by decide), ⟨h.r0.1, k.bk h.r0.2 (by decide)⟩, h.md.then k.below hP⟩
theorem F12.ext {w0 w : World} {P B g8 : Nat} {r : Rt} {rv : Value} {xs : List Vt} {wz w' : World} (h : F12 w0 w P B g8 r rv xs wz) (k : Ex wz w') (hP : P < w.heap.size) (h0 : w0.heap.size ≤ w.heap.size) : F12 w0 w P B g8 r rv xs w' :=
 h.kt (k.kt h.md.size) hP h0 (h.blk.ext k) (k.row h.row) (fun _ hx => Or.inl hx)
theorem F12.pb {w0 w : World} {P B g8 : Nat} {r : Rt} {rv : Value} {xs : List Vt} {wz : World} (h : F12 w0 w P B g8 r rv xs wz) (lo : w0.heap.size ≤ P) (h0 : w0.heap.size ≤ w.heap.size) : PB w0 wz P rv xs :=
 ⟨h.blk, rown_less h.row h0, fun i x hx => h.ins x (List.mem_of_getElem? hx), lo, Nat.le_trans h0 h.md.size⟩
/-- the map's row is another one: the store -/
theorem F12.st {w0 w : World} {P B g8 : Nat} {r : Rt} {rv rv' : Value} {xs xs' : List Vt} {wz w' : World} (h : F12 w0 w P B g8 r rv xs wz) (lo : w0.heap.size ≤ P) (hb : Bk w' P 134 #[rv']) (ho : Only P wz w') (hr : wz.ownsRow w.heap.size 36 42 rv' xs'.length (xs'.flatMap Vt.C)) (hx : ∀ x ∈ xs', PX w0 wz x) : F12 w0 w P B g8 r rv' xs' w' := by
 have k : Kt [134] w0.heap.size wz w' := Kt.md ho.md lo h.blk (List.mem_singleton.2 rfl)
 exact ⟨hb, k.row hr (by decide), fun x hi => (hx x hi).kt k (by decide), ⟨h.rb.1, k.bk h.rb.2 (by decide)⟩, h.rs.kt k (by decide), ⟨h.r0.1, k.bk h.r0.2 (by decide)⟩, h.md.trans ho.md⟩
/-- a vault is stored into the row -/
theorem F12.set {w0 w : World} {P B g8 : Nat} {r : Rt} {rv : Value} {xs : List Vt} {wz : World} (h : F12 w0 w P B g8 r rv xs wz) (hP : P < w.heap.size) (h0 : w0.heap.size ≤ w.heap.size) (p : Nat) (hp : p < xs.length) : ∃ (g cap : Nat) (C : List Value), rv = .slice (some ⟨g, 0, none⟩) xs.length cap ∧ Bk wz g 36 C.toArray ∧ p * 42 + 42 ≤ C.length ∧
  ∀ z, PX w0 wz z → ∀ w', Bk w' g 36 (C.take (p * 42) ++ z.C ++ C.drop (p * 42 + z.C.length)).toArray → Only g wz w' → F12 w0 w P B g8 r rv (xs.set p z) w' := by
 obtain ⟨g, cap, C, hv, hB, hb, hl, _, hset⟩ := own_store h.row p hp
 refine ⟨g, cap, C, hv, hb, hl, fun z hz w' hd ho => ?_⟩
 have hk : Kt [36] w.heap.size wz w' := Kt.md ho.md hB hb (List.mem_singleton.2 rfl)
 refine h.kt hk hP h0 (hk.bk h.blk (by decide)) ?_ (fun x hx => ?_)
 ·rw [vflat_set (fun i x hx => (h.ins x (List.mem_of_getElem? hx)).ok) p hp z hz.ok, List.length_set]
  exact hset z.C (Vt.len hz.ok) w' hd
 rcases List.mem_or_eq_of_mem_set hx with hm | rfl
 ·exact Or.inl hm
 exact Or.inr hz
structure G12 (w0 w : World) (P B g8 : Nat) (r : Rt) (rv : Value) (wz : World) : Prop where
 blk : Bk wz P 134 #[rv]
 rb : RB wz g8 r
 rs : PN wz w.heap.size r.sec
 r0 : RB wz B zeroRt
 md : Md P w wz
theorem G12.st {w0 w : World} {P B g8 : Nat} {r : Rt} {rv rv' : Value} {xs' : List Vt} {wz w' : World} (h : G12 w0 w P B g8 r rv wz) (lo : w0.heap.size ≤ P) (hb : Bk w' P 134 #[rv']) (ho : Only P wz w') (hr : wz.ownsRow w.heap.size 36 42 rv' xs'.length (xs'.flatMap Vt.C)) (hx : ∀ x ∈ xs', PX w0 wz x) : F12 w0 w P B g8 r rv' xs' w' := by
 have k : Kt [134] w0.heap.size wz w' := Kt.md ho.md lo h.blk (List.mem_singleton.2 rfl)
 exact ⟨hb, k.row hr (by decide), fun x hi => (hx x hi).kt k (by decide), ⟨h.rb.1, k.bk h.rb.2 (by decide)⟩, h.rs.kt k (by decide), ⟨h.r0.1, k.bk h.r0.2 (by decide)⟩, h.md.trans ho.md⟩
def St12 (w0 w w10 : World) (P B g8 : Nat) (r : Rt) (rv : Value) (xs' : List Vt) (b : Bool) (wz : World) : Prop := (b = false → Ex w10 wz) ∧ (b = true → F12 w0 w P B g8 r rv xs' wz)
structure S11 (w0 w w10 : World) (P B g8 : Nat) (r : Rt) (rv1 : Value) (xs : List Vt) (z : Vt) (l : Array Bool) (f : Nat → Value) (wz : World) : Prop where
 pre : l.getD 7 false = false → Ex w10 wz
 e6 : l.getD 6 false = true → l.getD 7 false = false → ∃ g, f 6 = .slice (some ⟨g, 0, none⟩) 1 1 ∧ Bk wz g 36 z.C.toArray
 e7 : l.getD 7 false = true → l.getD 10 false = false → wz.ownsRow w.heap.size 36 42 (f 7) (xs ++ [z]).length ((xs ++ [z]).flatMap Vt.C) ∧ (∀ x ∈ xs ++ [z], PX w0 wz x) ∧ G12 w0 w P B g8 r rv1 wz
 fin : l.getD 10 false = true → ∃ rv, F12 w0 w P B g8 r rv (xs ++ [z]) wz
section
variable {w0 w w10 : World} {P B g8 : Nat} {r : Rt} {rv1 : Value} {xs : List Vt} {z : Vt} {l : Array Bool} {f : Nat → Value} {wz w' : World} {x : Value}
theorem S11.plain (h : S11 w0 w w10 P B g8 r rv1 xs z l f wz) (i : Nat) (hi : i ≠ 6 ∧ i ≠ 7 ∧ i ≠ 10) : S11 w0 w w10 P B g8 r rv1 xs z (l.setIfInBounds i true) (upd f i x) wz := by
 refine ⟨?_, ?_, ?_, ?_⟩
 ·rw [gset hi.2.1 false]; exact h.pre
 ·rw [gset hi.1 false, gset hi.2.1 false, upd_ne _ _ (Ne.symm hi.1)]; exact h.e6
 ·rw [gset hi.2.1 false, gset hi.2.2 false, upd_ne _ _ (Ne.symm hi.2.1)]; exact h.e7
 rw [gset hi.2.2 false]; exact h.fin
theorem S11.s6 (h : S11 w0 w w10 P B g8 r rv1 xs z l f wz) (h7 : l.getD 7 false = false) (h10 : l.getD 10 false = false) : S11 w0 w w10 P B g8 r rv1 xs z (l.setIfInBounds 6 true) (upd f 6 (.slice (some ⟨wz.heap.size, 0, none⟩) 1 1)) (wz.alloc (.cells z.C.toArray 36)) := by
 refine ⟨?_, ?_, ?_, ?_⟩
 ·rw [gset (by decide) false]; exact fun e => Ex.trans (h.pre e) (Ex.alloc _ _)
 ·rw [upd_same]; exact fun _ _ => ⟨_, rfl, Bk.new rfl _ _⟩
 ·rw [gset (by decide) false, h7]; intro e; cases e
 rw [gset (by decide) false, h10]; intro e; cases e
end
end Go.Proofs.Ytmjfnpmnhehnkaa
namespace Go.Proofs.Ytmjfnpmnhehnkaa
open Go.RowKit
/-- what comes later: by shard, then by ID -/
def lat (a b : List UInt8) : Bool := decide (Sm.shV b < Sm.shV a ∨ (Sm.shV a = Sm.shV b ∧ idn b < idn a))
end Go.Proofs.Ytmjfnpmnhehnkaa
namespace Go.Proofs.Ytmjfnpmnhehnkaa
open Go.RowKit
def keyL (id : List UInt8) : Int := Sm.shV id * 4294967296 + idn id
theorem idn_lt {id : List UInt8} (h : id.length = 4) : idn id < 4294967296 := by
 obtain ⟨a, b, c, d, rfl⟩ := len4 h
 have ha := a.toNat_lt; have hb := b.toNat_lt; have hc := c.toNat_lt; have hd := d.toNat_lt
 show a.toNat * 16777216 + b.toNat * 65536 + c.toNat * 256 + d.toNat < 4294967296
 omega
/-- by shard, then by ID -/
def SortL (zs : List Vt) : Prop := ∀ (i j : Nat) (x y : Vt), i < j → zs[i]? = some x → zs[j]? = some y → keyL x.id < keyL y.id
theorem SortL.ins {zs : List Vt} (h : SortL zs) {x : Vt} {k : Nat} (hk : k ≤ zs.length) (lo : ∀ (j : Nat) (y : Vt), j < k → zs[j]? = some y → keyL y.id < keyL x.id) (hi : ∀ (j : Nat) (y : Vt), k ≤ j → zs[j]? = some y → keyL x.id < keyL y.id) : SortL (zs.take k ++ x :: zs.drop k) := by
 have ht : (zs.take k).length = k := by rw [List.length_take]; omega
 have cases3 : ∀ (i : Nat) (y : Vt), (zs.take k ++ x :: zs.drop k)[i]? = some y → (i < k ∧ zs[i]? = some y) ∨ (i = k ∧ y = x) ∨ (k < i ∧ zs[i - 1]? = some y) := fun i y hy => by
  rcases Nat.lt_trichotomy i k with h1 | h1 | h1
  ·rw [List.getElem?_append_left (by omega), List.getElem?_take, if_pos h1] at hy
   exact Or.inl ⟨h1, hy⟩
  ·rw [List.getElem?_append_right (by omega), ht, show i - k = 0 by omega] at hy
   exact Or.inr (Or.inl ⟨h1, by simpa using hy.symm⟩)
  rw [List.getElem?_append_right (by omega), ht, show i - k = (i - k - 1) + 1 by omega, List.getElem?_cons_succ, List.getElem?_drop, show k + (i - k - 1) = i - 1 by omega] at hy
  exact Or.inr (Or.inr ⟨h1, hy⟩)
 intro i j a b hij ha hb
 rcases cases3 i a ha with ⟨h1, h2⟩ | ⟨h1, rfl⟩ | ⟨h1, h2⟩ <;> rcases cases3 j b hb with ⟨h3, h4⟩ | ⟨h3, rfl⟩ | ⟨h3, h4⟩
 ·exact h i j a b hij h2 h4
 ·exact lo i a h1 h2
 ·exact h i (j - 1) a b (by omega) h2 h4
 ·omega
 ·omega
 ·exact hi (j - 1) b (by omega) h4
 ·omega
 ·omega
 exact h (i - 1) (j - 1) a b (by omega) h2 h4
/-- the state of region 8: rows that are made -/
structure S8 (w5 : World) (zs : List Vt) (x : Vt) (k : Nat) (l : Array Bool) (f : Nat → Value) (w : World) : Prop where
 ex : Ex w5 w
 e0 : l.getD 0 false = true → l.getD 4 false = false → Emp w5.heap.size w 36 (f 0)
 e4 : l.getD 4 false = true → l.getD 13 false = false → w.ownsRow w5.heap.size 36 42 (f 4) k ((zs.take k).flatMap Vt.C)
 e12 : l.getD 12 false = true → l.getD 13 false = false → ∃ g, f 12 = .slice (some ⟨g, 0, none⟩) 1 1 ∧ Bk w g 36 x.C.toArray ∧ w5.heap.size ≤ g
 e13 : l.getD 13 false = true → l.getD 17 false = false → w.ownsRow w5.heap.size 36 42 (f 13) (k + 1) ((zs.take k ++ [x]).flatMap Vt.C)
 e17 : l.getD 17 false = true → w.ownsRow w5.heap.size 36 42 (f 17) (zs.length + 1) ((zs.take k ++ x :: zs.drop k).flatMap Vt.C)
 e18 : l.getD 18 false = true → f 18 = f 17
def PAllPost (xs : List Vt) (w : World) (e : Ending) (w' : World) : Prop := ∃ (v : Value) (zs : List Vt), e = .returned v ∧ w'.ownsRow w.heap.size 36 42 v zs.length (zs.flatMap Vt.C) ∧ (∀ x, x ∈ zs ↔ x ∈ xs) ∧ zs.length = xs.length ∧ SortL zs ∧ Ex w w'
section
variable {w5 : World} {zs : List Vt} {x : Vt} {k : Nat} {l : Array Bool} {f : Nat → Value} {w w' : World} {v : Value}
theorem S8.plain (h : S8 w5 zs x k l f w) (i : Nat) (hi : i ≠ 0 ∧ i ≠ 4 ∧ i ≠ 12 ∧ i ≠ 13 ∧ i ≠ 17 ∧ i ≠ 18) : S8 w5 zs x k (l.setIfInBounds i true) (upd f i v) w := by
 refine ⟨h.ex, ?_, ?_, ?_, ?_, ?_, ?_⟩
 ·rw [gset hi.1 false, gset hi.2.1 false, upd_ne _ _ (Ne.symm hi.1)]; exact h.e0
 ·rw [gset hi.2.1 false, gset hi.2.2.2.1 false, upd_ne _ _ (Ne.symm hi.2.1)]; exact h.e4
 ·rw [gset hi.2.2.1 false, gset hi.2.2.2.1 false, upd_ne _ _ (Ne.symm hi.2.2.1)]; exact h.e12
 ·rw [gset hi.2.2.2.1 false, gset hi.2.2.2.2.1 false, upd_ne _ _ (Ne.symm hi.2.2.2.1)]; exact h.e13
 ·rw [gset hi.2.2.2.2.1 false, upd_ne _ _ (Ne.symm hi.2.2.2.2.1)]; exact h.e17
 rw [gset hi.2.2.2.2.2 false, upd_ne _ _ (Ne.symm hi.2.2.2.2.2), upd_ne _ _ (Ne.symm hi.2.2.2.2.1)]; exact h.e18
theorem S8.grow (h : S8 w5 zs x k l f w) (kx : Ex w w') : S8 w5 zs x k l f w' :=
 ⟨Ex.trans h.ex kx, fun a b => by obtain ⟨g, h1, h2, h3⟩ := h.e0 a b; exact ⟨g, h1, h2, h3.ext kx⟩, fun a b => kx.row (h.e4 a b), fun a b => by obtain ⟨g, h1, h2, h3⟩ := h.e12 a b; exact ⟨g, h1, h2.ext kx, h3⟩, fun a b => kx.row (h.e13 a b), fun a => kx.row (h.e17 a), h.e18⟩
theorem S8.s0 (h : S8 w5 zs x k l f w) (h4 : l.getD 4 false = false) : S8 w5 zs x k (l.setIfInBounds 0 true) (upd f 0 (.slice (some ⟨w.heap.size, 0, none⟩) 0 0)) (w.alloc (.cells #[] 36)) := by
 have h2 := h.grow (Ex.alloc w (.cells #[] 36))
 refine ⟨h2.ex, ?_, ?_, ?_, ?_, ?_, ?_⟩
 ·rw [upd_same]; exact fun _ _ => ⟨_, rfl, Below.size h.ex, Bk.new rfl _ _⟩
 ·rw [gset (by decide) false, h4]; intro e; cases e
 ·rw [gset (by decide) false, gset (by decide) false, upd_ne _ _ (by decide)]; exact h2.e12
 ·rw [gset (by decide) false, gset (by decide) false, upd_ne _ _ (by decide)]; exact h2.e13
 ·rw [gset (by decide) false, upd_ne _ _ (by decide)]; exact h2.e17
 rw [gset (by decide) false, upd_ne _ _ (by decide), upd_ne _ _ (by decide)]; exact h2.e18
theorem S8.s4 (h : S8 w5 zs x k l f w) (hl : 4 < l.size) (kx : Ex w w') (hr : w'.ownsRow w5.heap.size 36 42 v k ((zs.take k).flatMap Vt.C)) : S8 w5 zs x k (l.setIfInBounds 4 true) (upd f 4 v) w' := by
 have h2 := h.grow kx
 refine ⟨h2.ex, ?_, ?_, ?_, ?_, ?_, ?_⟩
 ·rw [set_new hl]; intro _ e; cases e
 ·rw [upd_same]; exact fun _ _ => hr
 ·rw [gset (by decide) false, gset (by decide) false, upd_ne _ _ (by decide)]; exact h2.e12
 ·rw [gset (by decide) false, gset (by decide) false, upd_ne _ _ (by decide)]; exact h2.e13
 ·rw [gset (by decide) false, upd_ne _ _ (by decide)]; exact h2.e17
 rw [gset (by decide) false, upd_ne _ _ (by decide), upd_ne _ _ (by decide)]; exact h2.e18
theorem S8.s13 (h : S8 w5 zs x k l f w) (hl : 13 < l.size) (h4 : l.getD 4 false = true) (h17 : l.getD 17 false = false) (kx : Ex w5 w') (hr : w'.ownsRow w5.heap.size 36 42 v (k + 1) ((zs.take k ++ [x]).flatMap Vt.C)) : S8 w5 zs x k (l.setIfInBounds 13 true) (upd f 13 v) w' := by
 refine ⟨kx, ?_, ?_, ?_, ?_, ?_, ?_⟩
 ·rw [gset (show (13 : Nat) ≠ 4 by decide) false, h4]; intro _ e; cases e
 ·rw [set_new hl]; intro _ e; cases e
 ·rw [set_new hl]; intro _ e; cases e
 ·rw [upd_same]; exact fun _ _ => hr
 ·rw [gset (by decide) false, h17]; intro e; cases e
 rw [gset (by decide) false, upd_ne _ _ (by decide), upd_ne _ _ (by decide)]; exact h.e18
end
end Go.Proofs.Ytmjfnpmnhehnkaa
namespace Go.Proofs.Ytmjfnpmnhehnkaa
open Go.RowKit
theorem nodup_le {α : Type} [DecidableEq α] : ∀ (l1 l2 : List α), l1.Nodup → (∀ x ∈ l1, x ∈ l2) → l1.length ≤ l2.length
 | [], _, _, _ => Nat.zero_le _
 | a :: r, l2, hn, hs => by
  have ha := hs a (List.mem_cons_self ..)
  have h1 := nodup_le r (l2.erase a) (List.nodup_cons.1 hn).2 (fun x hx => (List.mem_erase_of_ne (fun e => (List.nodup_cons.1 hn).1 (by rw [← e]; exact hx))).2 (hs x (List.mem_cons_of_mem _ hx)))
  rw [List.length_erase_of_mem ha] at h1
  have h2 : 0 < l2.length := List.length_pos_of_mem ha
  simp only [List.length_cons]; omega
theorem sorted_eq {α : Type} (key : α → Int) : ∀ (l1 l2 : List α), l1.Pairwise (fun a b => key a < key b) → l2.Pairwise (fun a b => key a < key b) → (∀ x, x ∈ l1 ↔ x ∈ l2) → l1 = l2
 | [], [], _, _, _ => rfl
 | [], b :: r, _, _, h => absurd ((h b).2 (List.mem_cons_self ..)) (by simp)
 | a :: r, [], _, _, h => absurd ((h a).1 (List.mem_cons_self ..)) (by simp)
 | a :: r, b :: s, h1, h2, h => by
  obtain ⟨p1, p2⟩ := List.pairwise_cons.1 h1
  obtain ⟨q1, q2⟩ := List.pairwise_cons.1 h2
  have e : a = b := by
   rcases List.mem_cons.1 ((h a).1 (List.mem_cons_self ..)) with e | e
   ·exact e
   rcases List.mem_cons.1 ((h b).2 (List.mem_cons_self ..)) with e2 | e2
   ·exact e2.symm
   have := q1 a e; have := p1 b e2; omega
  subst e
  refine congrArg _ (sorted_eq key r s p2 q2 (fun x => ⟨fun hx => ?_, fun hx => ?_⟩))
  ·rcases List.mem_cons.1 ((h x).1 (List.mem_cons_of_mem _ hx)) with e | e
   ·subst e; have := p1 x hx; omega
   exact e
  rcases List.mem_cons.1 ((h x).2 (List.mem_cons_of_mem _ hx)) with e | e
  ·subst e; have := q1 x hx; omega
  exact e
/-- the same vaults -/
structure Rel (v : Nat → List Vt) (xs : List Vt) : Prop where
 mem : ∀ i, i < 16 → ∀ c, c ∈ (v i).map Vt.ct ↔ c ∈ xs.map Vt.ct ∧ Sm.shV c.id = (i : Int)
 dist : ∀ (i j : Nat) (x y : Vt), i < j → xs[i]? = some x → xs[j]? = some y → x.id ≠ y.id
 right : ∀ x ∈ xs, x.ct.right = true
 idl : ∀ x ∈ xs, x.id.length = 4
theorem Rel.nil {v : Nat → List Vt} (h : ∀ i, i < 16 → v i = []) : Rel v [] := ⟨fun i hi c => by rw [h i hi]; simp, fun i j x y _ hx => by simp at hx, fun x hx => by simp at hx, fun x hx => by simp at hx⟩
theorem Rel.home {v : Nat → List Vt} {xs : List Vt} (h : Rel v xs) : Home v := fun i hi x hx => ((h.mem i hi x.ct).1 (List.mem_map.2 ⟨x, hx, rfl⟩)).2
theorem Rel.rightV {v : Nat → List Vt} {xs : List Vt} (h : Rel v xs) : RightV v := fun i hi j x hx => by
 obtain ⟨y, hy, e⟩ := List.mem_map.1 ((h.mem i hi x.ct).1 (List.mem_map.2 ⟨x, List.mem_of_getElem? hx, rfl⟩)).1
 rw [← e]; exact h.right y hy
theorem Rel.uniq {v : Nat → List Vt} {xs : List Vt} (h : Rel v xs) {x y : Vt} (hx : x ∈ xs) (hy : y ∈ xs) (e : x.id = y.id) : x = y := by
 obtain ⟨i, hi, e1⟩ := List.getElem_of_mem hx
 obtain ⟨j, hj, e2⟩ := List.getElem_of_mem hy
 have gi : xs[i]? = some x := by rw [List.getElem?_eq_getElem hi, e1]
 have gj : xs[j]? = some y := by rw [List.getElem?_eq_getElem hj, e2]
 rcases Nat.lt_trichotomy i j with h1 | h1 | h1
 ·exact absurd e (h.dist i j x y h1 gi gj)
 ·subst h1; rw [gi] at gj; exact Option.some.inj gj
 exact absurd e.symm (h.dist j i y x h1 gj gi)
theorem ct_nodup {xs : List Vt} (hd : ∀ (i j : Nat) (x y : Vt), i < j → xs[i]? = some x → xs[j]? = some y → x.id ≠ y.id) : (xs.map Vt.ct).Nodup := by
 unfold List.Nodup
 rw [List.pairwise_map, List.pairwise_iff_getElem]
 intro i j hi hj hij e
 exact hd i j _ _ hij (List.getElem?_eq_getElem hi) (List.getElem?_eq_getElem hj) (congrArg Vc.id e)
theorem tidy_nodup {vs : List Vt} (h : Tidy vs) : (vs.map Vt.ct).Nodup := by
 unfold List.Nodup
 rw [List.pairwise_map, List.pairwise_iff_getElem]
 intro i j hi hj hij e
 have h1 := h.srt i j hij hj
 rw [idF_get hi, idF_get hj, show vs[i].id = vs[j].id from congrArg Vc.id e] at h1
 omega
/-- as many in the shard -/
theorem Rel.cnt {v : Nat → List Vt} {xs : List Vt} (h : Rel v xs) {s : Nat} (hs : s < 16) (ht : Tidy (v s)) {id : List UInt8} (hid : Sm.shV id = (s : Int)) : cntS xs id = (v s).length := by
 have e1 : cntS xs id = (xs.filter (fun y => decide (Sm.shV y.id = Sm.shV id))).length := by unfold cntS; exact List.countP_eq_length_filter
 have hn : ((xs.filter (fun y => decide (Sm.shV y.id = Sm.shV id))).map Vt.ct).Nodup := List.Nodup.sublist (List.Sublist.map _ List.filter_sublist) (ct_nodup h.dist)
 have hm : ∀ c, c ∈ (xs.filter (fun y => decide (Sm.shV y.id = Sm.shV id))).map Vt.ct ↔ c ∈ (v s).map Vt.ct := fun c => by
  rw [h.mem s hs, ← hid]
  constructor
  ·intro hc
   obtain ⟨y, hy, rfl⟩ := List.mem_map.1 hc
   obtain ⟨h1, h2⟩ := List.mem_filter.1 hy
   exact ⟨List.mem_map.2 ⟨y, h1, rfl⟩, of_decide_eq_true h2⟩
  rintro ⟨hc, h2⟩
  obtain ⟨y, hy, rfl⟩ := List.mem_map.1 hc
  exact List.mem_map.2 ⟨y, List.mem_filter.2 ⟨hy, decide_eq_true h2⟩, rfl⟩
 have a := nodup_le _ _ hn (fun c hc => (hm c).1 hc)
 have b := nodup_le _ _ (tidy_nodup ht) (fun c hc => (hm c).2 hc)
 rw [List.length_map, List.length_map] at a b
 omega
theorem Rel.cur {v : Nat → List Vt} {xs : List Vt} (h : Rel v xs) {s : Nat} (hs : s < 16) {id : List UInt8} (hid : Sm.shV id = (s : Int)) {c : Vc} {x : Vt} {k : Int} (hc : Cur (v s) id c) (hg : GetP xs id x k) : x.ct = c ∧ (k < 0 ↔ c = zeroVc) := by
 have hz : ∀ y ∈ xs, y.ct ≠ zeroVc := fun y hy e => by have := h.right y hy; rw [e] at this; exact absurd this (by decide)
 rcases hg with ⟨rfl, rfl, hno⟩ | ⟨j, rfl, hj, hxid⟩
 ·rcases hc with ⟨rfl, _⟩ | ⟨y, hy, rfl, hyid⟩
  ·exact ⟨rfl, ⟨fun _ => rfl, fun _ => by decide⟩⟩
  obtain ⟨z, hz2, e⟩ := List.mem_map.1 ((h.mem s hs y.ct).1 (List.mem_map.2 ⟨y, hy, rfl⟩)).1
  exact absurd ((congrArg Vc.id e : z.id = y.id).trans hyid) (hno z hz2)
 have hx := List.mem_of_getElem? hj
 have hxv := (h.mem s hs x.ct).2 ⟨List.mem_map.2 ⟨x, hx, rfl⟩, by rw [show x.ct.id = id from hxid]; exact hid⟩
 obtain ⟨y, hy, e⟩ := List.mem_map.1 hxv
 rcases hc with ⟨_, hno⟩ | ⟨z, hz2, rfl, hzid⟩
 ·exact absurd ((congrArg Vc.id e : y.id = x.id).trans hxid) (hno y hy)
 obtain ⟨u, hu, e3⟩ := List.mem_map.1 ((h.mem s hs z.ct).1 (List.mem_map.2 ⟨z, hz2, rfl⟩)).1
 have : u = x := h.uniq hu hx (((congrArg Vc.id e3 : u.id = z.id).trans hzid).trans hxid.symm)
 subst this
 exact ⟨e3, ⟨fun h => by omega, fun h9 => absurd (e3.trans h9) (hz u hu)⟩⟩
/-- one Do of both -/
theorem Rel.step {v v' : Nat → List Vt} {xs xs' : List Vt} (h : Rel v xs) {s : Nat} (hs : s < 16) (ht : Tidy (v s)) {q : Qc} {y y2 : Rc} (hid : q.id.length = 4) (hsh : Sm.shV q.id = (s : Int)) (h1 : IStep v s q y v') (h2 : PStep xs q y2 xs') : y = y2 ∧ Rel v' xs' := by
 rcases h2 with ⟨hr, rfl, rfl⟩ | ⟨hr, x, k, hg, hk, h2⟩
 ·rcases h1 with ⟨_, rfl, rfl⟩ | ⟨hr2, _⟩
  ·exact ⟨rfl, h⟩
  rw [hr] at hr2; cases hr2
 obtain ⟨c, hc, hkc, h1⟩ := istep_cur ht hid hr h1
 obtain ⟨e, hk0⟩ := h.cur hs hsh hc hg
 subst e
 rcases h1 with ⟨a1, a2, rfl⟩ | ⟨a1, a2, a3, a4, rfl⟩ | ⟨a1, a2, a3, ls, rfl, hrep⟩
 ·rcases h2 with ⟨_, b2, rfl⟩ | ⟨b1, _⟩ | ⟨b1, _⟩
  ·exact ⟨a2.trans b2.symm, h⟩
  ·rw [a1] at b1; cases b1
  rw [a1] at b1; cases b1
 ·rcases h2 with ⟨b1, _⟩ | ⟨_, _, _, b2, rfl⟩ | ⟨_, _, z, _, ⟨_, b3, _⟩ | ⟨j, b3, _⟩⟩
  ·rw [a1] at b1; cases b1
  ·exact ⟨a4.trans b2.symm, h⟩
  ·rw [h.cnt hs ht hsh] at b3; omega
  have := hk0.2 a2; omega
 have hdc := doC_changed hr hkc a1
 rcases h2 with ⟨b1, _⟩ | ⟨_, b2, b3, _⟩ | ⟨_, b2, z, hz, hput⟩
 ·rw [a1] at b1; cases b1
 ·rw [h.cnt hs ht hsh] at b3
  rcases a2 with a2 | a2
  ·exact absurd (hk0.1 b2) a2
  omega
 refine ⟨a3.trans b2.symm, ?_⟩
 rw [← hz] at hdc hrep
 obtain ⟨hzr, hzid⟩ := hdc
 have hzid : z.id = q.id := hzid
 have hmem : (∀ c, c ∈ xs'.map Vt.ct ↔ c = z.ct ∨ (c ∈ xs.map Vt.ct ∧ c.id ≠ z.id)) ∧ ∀ (i j : Nat) (x y : Vt), i < j → xs'[i]? = some x → xs'[j]? = some y → x.id ≠ y.id := by
  rcases hput with ⟨b4, _, rfl⟩ | ⟨j, rfl, hj, rfl⟩
  ·have hno : ∀ y ∈ xs, y.id ≠ z.id := fun y hy => by
    rcases hg with ⟨_, _, hno⟩ | ⟨j, e, _⟩
    ·rw [hzid]; exact hno y hy
    omega
   refine ⟨fun c => ?_, fun i j a b hij ha hb => ?_⟩
   ·rw [List.map_append, List.mem_append]
    constructor
    ·rintro (hc | hc)
     ·obtain ⟨y, hy, rfl⟩ := List.mem_map.1 hc
      exact Or.inr ⟨hc, hno y hy⟩
     simp at hc; exact Or.inl hc
    rintro (rfl | ⟨hc, _⟩)
    ·exact Or.inr (by simp)
    exact Or.inl hc
   have hj : j < xs.length + 1 := by have := (List.getElem?_eq_some_iff.1 hb).1; simpa using this
   have hi : i < xs.length := by omega
   rw [List.getElem?_append_left hi] at ha
   rcases Nat.lt_or_ge j xs.length with h3 | h3
   ·rw [List.getElem?_append_left h3] at hb
    exact h.dist i j a b hij ha hb
   obtain rfl : j = xs.length := by omega
   rw [List.getElem?_append_right (Nat.le_refl _), Nat.sub_self] at hb
   obtain rfl : z = b := by simpa using hb
   exact hno a (List.mem_of_getElem? ha)
  have hxj : xs[j]? = some x ∧ x.id = q.id := by
   rcases hg with ⟨e, _⟩ | ⟨j2, e, h3, h4⟩
   ·omega
   obtain rfl : j = j2 := by omega
   exact ⟨h3, h4⟩
  have hxz : x.id = z.id := hxj.2.trans hzid.symm
  have hoth : ∀ i y, i ≠ j → xs[i]? = some y → y.id ≠ z.id := fun i y hij hy => by
   rw [← hxz]
   rcases Nat.lt_or_ge i j with h3 | h3
   ·exact h.dist i j y x h3 hy hxj.1
   exact (h.dist j i x y (by omega) hxj.1 hy).symm
  refine ⟨fun c => ⟨fun hc => ?_, ?_⟩, fun i l a b hil ha hb => ?_⟩
  ·obtain ⟨y, hy, rfl⟩ := List.mem_map.1 hc
   obtain ⟨i, hi, e⟩ := List.getElem_of_mem hy
   by_cases hij : j = i
   ·subst hij; rw [List.getElem_set_self] at e; exact Or.inl (by rw [← e])
   rw [List.getElem_set_ne hij] at e
   rw [List.length_set] at hi
   have gy : xs[i]? = some y := by rw [List.getElem?_eq_getElem hi, e]
   exact Or.inr ⟨List.mem_map.2 ⟨y, List.mem_of_getElem? gy, rfl⟩, hoth i y (fun e => hij e.symm) gy⟩
  ·rintro (rfl | ⟨hc, hne⟩)
   ·exact List.mem_map.2 ⟨z, List.mem_iff_getElem.2 ⟨j, by rw [List.length_set]; exact hj, List.getElem_set_self _⟩, rfl⟩
   obtain ⟨y, hy, rfl⟩ := List.mem_map.1 hc
   obtain ⟨i, hi, e⟩ := List.getElem_of_mem hy
   have hij : j ≠ i := fun e2 => by
    subst e2
    rw [List.getElem?_eq_getElem hi, e] at hxj
    have : y = x := Option.some.inj hxj.1
    exact hne (by rw [this]; exact hxz)
   exact List.mem_map.2 ⟨y, List.mem_iff_getElem.2 ⟨i, by rw [List.length_set]; exact hi, by rw [List.getElem_set_ne hij, e]⟩, rfl⟩
  by_cases hi : j = i
  ·subst hi
   rw [List.getElem?_set_self hj] at ha
   cases ha
   rw [List.getElem?_set_ne (by omega)] at hb
   exact (hoth l b (by omega) hb).symm
  rw [List.getElem?_set_ne hi] at ha
  by_cases hl : j = l
  ·subst hl
   rw [List.getElem?_set_self hj] at hb
   cases hb
   exact hoth i a (fun e => hi e.symm) ha
  rw [List.getElem?_set_ne hl] at hb
  exact h.dist i l a b hil ha hb
 refine ⟨fun i hi c => ?_, hmem.2, fun u hu => ?_, fun u hu => ?_⟩
 ·by_cases e : i = s
  ·subst e
   rw [updF_same]
   refine (hrep c).trans ?_
   rw [hmem.1, h.mem i hi]
   constructor
   ·rintro (rfl | ⟨⟨h3, h4⟩, h5⟩)
    ·exact ⟨Or.inl rfl, by rw [show z.ct.id = q.id from hzid]; exact hsh⟩
    exact ⟨Or.inr ⟨h3, h5⟩, h4⟩
   rintro ⟨rfl | ⟨h3, h5⟩, h4⟩
   ·exact Or.inl rfl
   exact Or.inr ⟨⟨h3, h4⟩, h5⟩
  rw [updF_ne _ _ e, hmem.1, h.mem i hi]
  constructor
  ·rintro ⟨h3, h4⟩
   refine ⟨Or.inr ⟨h3, fun e2 => e ?_⟩, h4⟩
   rw [e2, hzid, hsh] at h4
   omega
  rintro ⟨rfl | ⟨h3, _⟩, h4⟩
  ·exfalso
   rw [show z.ct.id = q.id from hzid, hsh] at h4
   exact e (by omega)
  exact ⟨h3, h4⟩
 ·rcases (hmem.1 u.ct).1 (List.mem_map.2 ⟨u, hu, rfl⟩) with e | ⟨h3, _⟩
  ·rw [e]; exact hzr
  obtain ⟨t, ht2, e⟩ := List.mem_map.1 h3
  rw [← e]; exact h.right t ht2
 rcases (hmem.1 u.ct).1 (List.mem_map.2 ⟨u, hu, rfl⟩) with e | ⟨h3, _⟩
 ·rw [show u.id = z.id from congrArg Vc.id e, hzid]; exact hid
 obtain ⟨t, ht2, e⟩ := List.mem_map.1 h3
 rw [← show t.id = u.id from congrArg Vc.id e]; exact h.idl t ht2
def keyC (c : Vc) : Int := keyL c.id
theorem allV_sorted {v : Nat → List Vt} (ht : ∀ i, i < 16 → Tidy (v i)) (hh : Home v) : ∀ k, k ≤ 16 → ((allV v k).map Vt.ct).Pairwise (fun a b => keyC a < keyC b) ∧ ∀ x ∈ allV v k, Sm.shV x.id < (k : Int) ∧ x.id.length = 4
 | 0, _ => ⟨List.Pairwise.nil, fun x hx => by simp [allV] at hx⟩
 | k + 1, hk => by
  obtain ⟨h1, h2⟩ := allV_sorted ht hh k (by omega)
  have hT := ht k (by omega)
  have hH := hh k (by omega)
  rw [allV_succ]
  refine ⟨?_, fun x hx => ?_⟩
  ·rw [List.map_append, List.pairwise_append]
   refine ⟨h1, ?_, fun a ha b hb => ?_⟩
   ·rw [List.pairwise_map, List.pairwise_iff_getElem]
    intro i j hi hj hij
    have h3 := hT.srt i j hij hj
    rw [idF_get hi, idF_get hj] at h3
    have h4 := hH _ (List.getElem_mem hi)
    have h5 := hH _ (List.getElem_mem hj)
    show keyL (v k)[i].id < keyL (v k)[j].id
    unfold keyL
    rw [h4, h5]; omega
   obtain ⟨x, hx, rfl⟩ := List.mem_map.1 ha
   obtain ⟨y, hy, rfl⟩ := List.mem_map.1 hb
   have h3 := h2 x hx
   have h4 := hH y hy
   have h5 := idn_lt h3.2
   show keyL x.id < keyL y.id
   unfold keyL
   rw [h4]
   generalize Sm.shV x.id = a at *
   omega
  rcases List.mem_append.1 hx with h3 | h3
  ·have := h2 x h3
   exact ⟨by omega, this.2⟩
  exact ⟨by rw [hH x h3]; omega, hT.idl x h3⟩
theorem shv_lt (id : List UInt8) : ∃ s : Nat, s < 16 ∧ Sm.shV id = (s : Int) := by
 obtain ⟨s, h1, h2⟩ := shv_range id
 exact ⟨s, h2, h1⟩
/-- all of both are one row -/
theorem Rel.all {v : Nat → List Vt} {xs zs : List Vt} (h : Rel v xs) (ht : ∀ i, i < 16 → Tidy (v i)) (hm : ∀ x, x ∈ zs ↔ x ∈ xs) (hs : SortL zs) : (allV v 16).map Vt.ct = zs.map Vt.ct := by
 refine sorted_eq keyC _ _ (allV_sorted ht h.home 16 (Nat.le_refl _)).1 ?_ (fun c => ?_)
 ·rw [List.pairwise_map, List.pairwise_iff_getElem]
  intro i j hi hj hij
  exact hs i j _ _ hij (List.getElem?_eq_getElem hi) (List.getElem?_eq_getElem hj)
 constructor
 ·intro hc
  obtain ⟨x, hx, rfl⟩ := List.mem_map.1 hc
  unfold allV at hx
  obtain ⟨i, hi, hxi⟩ := List.mem_flatMap.1 hx
  obtain ⟨y, hy, e⟩ := List.mem_map.1 ((h.mem i (List.mem_range.1 hi) x.ct).1 (List.mem_map.2 ⟨x, hxi, rfl⟩)).1
  exact List.mem_map.2 ⟨y, (hm y).2 hy, e⟩
 intro hc
 obtain ⟨y, hy, rfl⟩ := List.mem_map.1 hc
 obtain ⟨s, h1, h2⟩ := shv_lt y.id
 obtain ⟨x, hx, e⟩ := List.mem_map.1 ((h.mem s h1 y.ct).2 ⟨List.mem_map.2 ⟨y, (hm y).1 hy, rfl⟩, h2⟩)
 exact List.mem_map.2 ⟨x, by unfold allV; exact List.mem_flatMap.2 ⟨s, List.mem_range.2 h1, hx⟩, e⟩
end Go.Proofs.Ytmjfnpmnhehnkaa
namespace Go.Proofs.Ytmjfnpmnhehnkaa
open Go.RowKit
/-- both maps, their blocks apart -/
structure PM (w0 w : World) (M : Nat) (D : Nat → Nat) (P : Nat) (r : Nat → Value) (v : Nat → List Vt) (rv : Value) (xs : List Vt) : Prop where
 im : IM w w0.heap.size M D r v
 pb : PB w0 w P rv xs
 dj : ∀ i, i < 16 → Djn rv (r i)
 ex : Ex w0 w
theorem PM.ext {w0 w w' : World} {M : Nat} {D : Nat → Nat} {P : Nat} {r : Nat → Value} {v : Nat → List Vt} {rv : Value} {xs : List Vt} (h : PM w0 w M D P r v rv xs) (k : Ex w w') : PM w0 w' M D P r v rv xs :=
 ⟨h.im.ext k, h.pb.ext k, h.dj, Ex.trans h.ex k⟩
/-- a table of the ideal map is turned: the plain map stays -/
theorem PB.tc {w0 w w' : World} {P D' : Nat} {rv rv' : Value} {xs vs' : List Vt} (h : PB w0 w P rv xs) (h' : TB w D' rv' vs') (k : Tc D' rv'.ownBlock w w') (hr : Djn rv rv') (lo : w0.heap.size ≤ D') : PB w0 w' P rv xs := by
 refine ⟨k.kt9 h' h.blk (by decide) (by decide), ⟨h.row.1, h.row.2.imp id fun ⟨g, cap, cur, hv, hB, hg, hrest⟩ => ⟨g, cap, cur, hv, hB, ?_, hrest⟩⟩, fun i x hx => ⟨(h.ins i x hx).ok, (h.ins i x hx).sec.tc k h' h.sz lo, (h.ins i x hx).len⟩, h.lo, Nat.le_trans h.sz k.size⟩
 exact (show Bk w' g 36 cur from k.bk hg (fun e => by subst e; exact h'.D_ne hg rfl) (fun e => hr g (by rw [hv]; rfl) e.symm))
theorem IM.plain {w w' : World} {B M P : Nat} {D : Nat → Nat} {r : Nat → Value} {v : Nat → List Vt} {cs : Array Value} (h : IM w B M D r v) (k : Md P w w') (hb : Bk w P 134 cs) : IM w' B M D r v := by
 have kt : Kt [134] 0 w w' := Kt.md k (Nat.zero_le _) hb (List.mem_singleton.2 rfl)
 exact ⟨kt.bk h.blk (by decide), h.ts.kts kt (by decide) (by decide) (by decide)⟩
/-- bytes, a reply, a request that stay through both -/
theorem PN.md9 {w w' : World} {P B : Nat} {p : Pt} {cs : Array Value} (h : PN w B p) (k : Md P w w') (hb : Bk w P 134 cs) : PN w' B p :=
 h.kt (Kt.md k (Nat.zero_le _) hb (List.mem_singleton.2 rfl)) (by decide)
theorem Bk.md9 {w w' : World} {P g : Nat} {t : TypeId} {cs cs2 : Array Value} (h : Bk w g t cs2) (k : Md P w w') (hb : Bk w P 134 cs) (ht : t ≠ 134) : Bk w' g t cs2 :=
 (Kt.md (S := [134]) k (Nat.zero_le _) hb (List.mem_singleton.2 rfl)).bk h (fun h => ht (List.mem_singleton.1 h))
/-- both maps have the same vaults -/
structure PI (w0 w : World) (M : Nat) (D : Nat → Nat) (P : Nat) (r : Nat → Value) (v : Nat → List Vt) (rv : Value) (xs : List Vt) : Prop where
 pm : PM w0 w M D P r v rv xs
 rel : Rel v xs
theorem PI.ext {w0 w w' : World} {M : Nat} {D : Nat → Nat} {P : Nat} {r : Nat → Value} {v : Nat → List Vt} {rv : Value} {xs : List Vt} (h : PI w0 w M D P r v rv xs) (k : Ex w w') : PI w0 w' M D P r v rv xs := ⟨h.pm.ext k, h.rel⟩
theorem PStep.len {xs xs' : List Vt} {q : Qc} {y : Rc} (h : PStep xs q y xs') : xs.length ≤ xs'.length ∧ xs'.length ≤ xs.length + 1 := by
 rcases h with ⟨_, _, rfl⟩ | ⟨_, x, k, _, _, ⟨_, _, rfl⟩ | ⟨_, _, _, _, rfl⟩ | ⟨_, _, z, _, ⟨_, _, rfl⟩ | ⟨j, _, _, rfl⟩⟩⟩
 ·omega
 ·omega
 ·omega
 ·rw [List.length_append]; simp
 rw [List.length_set]; omega
end Go.Proofs.Ytmjfnpmnhehnkaa
namespace Go.Proofs.Ytmjfnpmnhehnkaa
open Go.RowKit
structure C11 (w0 w : World) (g : Nat) (q : Qt) (B2 M2 : Nat) (D2 : Nat → Nat) (r2 : Nat → Value) (v2 : Nat → List Vt) : Prop where
 ex : Ex w0 w
 qb : QB w g q
 sk : SK w0 w q.sec
 cp : IM w B2 M2 D2 r2 v2
def A11 (w0 w : World) (x : Value) (b : Bool) (y : Value) : Prop := ∃ (h : Nat) (cs : Array Value), x = .pointer (some ⟨h, 0, none⟩) ∧ w0.heap.size ≤ h ∧ Bk w h 83 cs ∧ cs.size = 10 ∧ (b = true → y = .agg cs)
def R11 (w : World) (x : Value) (y : Rt) : Prop := x = y.V ∧ y.Ok ∧ PN w 0 y.sec
section
variable {w0 w w' : World} {M : Nat} {D : Nat → Nat} {P s g : Nat} {r r' : Nat → Value} {v v' : Nat → List Vt} {rv rv' : Value} {xs xs' : List Vt} {q : Qt} {B2 M2 : Nat} {D2 : Nat → Nat} {r2 : Nat → Value} {v2 : Nat → List Vt} {x y : Value} {b : Bool} {z : Rt}
theorem C11.ext (h : C11 w0 w g q B2 M2 D2 r2 v2) (k : Ex w w') : C11 w0 w' g q B2 M2 D2 r2 v2 := ⟨Ex.trans h.ex k, h.qb.ext k, h.sk.ext (Below.size h.ex) k, h.cp.ext k⟩
theorem A11.ext (h : A11 w0 w x b y) (k : Ex w w') : A11 w0 w' x b y := by
 obtain ⟨a, cs, h1, h2, h3, h4⟩ := h; exact ⟨a, cs, h1, h2, h3.ext k, h4⟩
theorem R11.ext (h : R11 w x z) (k : Ex w w') : R11 w' x z := ⟨h.1, h.2.1, h.2.2.ext k⟩
theorem C11.tc (h : C11 w0 w g q B2 M2 D2 r2 v2) (hm : PM w0 w M D P r v rv xs) (hs : s < 16) (k : Tc (D s) (r s).ownBlock w w') (ap : Apart D r D2 r2) : C11 w0 w' g q B2 M2 D2 r2 v2 := by
 have ht := hm.im.ts.tb s hs
 have lo := hm.im.ts.lo s hs
 exact ⟨k.ex9 ht h.ex lo, ⟨h.qb.1, k.kt9 ht h.qb.2 (by decide) (by decide)⟩, h.sk.tc k ht (Below.size h.ex) lo, hm.im.other h.cp hs k ap⟩
theorem A11.tc (h : A11 w0 w x b y) (hm : PM w0 w M D P r v rv xs) (hs : s < 16) (k : Tc (D s) (r s).ownBlock w w') : A11 w0 w' x b y := by
 obtain ⟨a, cs, h1, h2, h3, h4⟩ := h; exact ⟨a, cs, h1, h2, k.kt9 (hm.im.ts.tb s hs) h3 (by decide) (by decide), h4⟩
theorem C11.md (h : C11 w0 w g q B2 M2 D2 r2 v2) (hm : PM w0 w M D P r v rv xs) (k : Md P w w') : C11 w0 w' g q B2 M2 D2 r2 v2 := by
 have hb := hm.pb.blk
 have lo := hm.pb.lo
 exact ⟨k.below w0.heap.size lo w0 h.ex, ⟨h.qb.1, h.qb.2.md9 k hb (by decide)⟩, h.sk.kt (Kt.md k lo hb (List.mem_singleton.2 rfl)) (by decide), h.cp.plain k hb⟩
theorem A11.md (h : A11 w0 w x b y) (hm : PM w0 w M D P r v rv xs) (k : Md P w w') : A11 w0 w' x b y := by
 obtain ⟨a, cs, h1, h2, h3, h4⟩ := h; exact ⟨a, cs, h1, h2, h3.md9 k hm.pb.blk (by decide), h4⟩
theorem R11.md (h : R11 w x z) (hm : PM w0 w M D P r v rv xs) (k : Md P w w') : R11 w' x z := ⟨h.1, h.2.1, h.2.2.md9 k hm.pb.blk⟩
theorem C11.only {a : Nat} {cs : Array Value} (h : C11 w0 w g q B2 M2 D2 r2 v2) (ho : Only a w w') (lo : w0.heap.size ≤ a) (hb : Bk w a 83 cs) : C11 w0 w' g q B2 M2 D2 r2 v2 := by
 have k : Kt [83] w0.heap.size w w' := Kt.md ho.md lo hb (List.mem_singleton.2 rfl)
 exact ⟨ho.below w0.heap.size lo w0 h.ex, ⟨h.qb.1, k.bk h.qb.2 (by decide)⟩, h.sk.kt k (by decide), h.cp.kts9 (k.less (Nat.zero_le _))⟩
theorem A11.only {a : Nat} (h : A11 w0 w x b y) (ho : Only a w w') (hn : x ≠ .pointer (some ⟨a, 0, none⟩)) : A11 w0 w' x b y := by
 obtain ⟨c, cs, h1, h2, h3, h4⟩ := h; exact ⟨c, cs, h1, h2, ho.bk h3 (fun e => hn (by rw [h1, e])), h4⟩
theorem R11.only {a : Nat} {cs : Array Value} (h : R11 w x z) (ho : Only a w w') (hb : Bk w a 83 cs) : R11 w' x z := ⟨h.1, h.2.1, h.2.2.onlyT ho hb (by decide)⟩
theorem PM.only {a : Nat} {cs : Array Value} (h : PM w0 w M D P r v rv xs) (ho : Only a w w') (lo : w0.heap.size ≤ a) (hb : Bk w a 83 cs) : PM w0 w' M D P r v rv xs := by
 have k : Kt [83] w0.heap.size w w' := Kt.md ho.md lo hb (List.mem_singleton.2 rfl)
 exact ⟨h.im.kts9 (k.less (Nat.zero_le _)), h.pb.kt k (by decide) (by decide) (by decide), h.dj, ho.below w0.heap.size lo w0 h.ex⟩
theorem A11.lt (h : A11 w0 w x b y) : x ≠ .pointer (some ⟨w.heap.size, 0, none⟩) := by
 obtain ⟨a, cs, h1, h2, h3, h4⟩ := h
 intro e
 have h5 := h3.lt
 rw [h1] at e
 injection e with e; injection e with e; injection e with e
 omega
end
/-- what holds in region 11 -/
structure Q11 (w0 : World) (M : Nat) (D : Nat → Nat) (P : Nat) (r : Nat → Value) (v : Nat → List Vt) (rv : Value) (xs : List Vt) (s g : Nat) (q : Qt) (B2 M2 : Nat) (D2 : Nat → Nat) (r2 : Nat → Value) (v2 : Nat → List Vt) (l : Array Bool) (f : Nat → Value) (w : World) : Prop where
 c : C11 w0 w g q B2 M2 D2 r2 v2
 st0 : l.getD 2 false = false → PM w0 w M D P r v rv xs
 st1 : l.getD 2 false = true → l.getD 5 false = false → ∃ y1 r1 v1, R11 w (f 2) y1 ∧ PM w0 w M D P r1 v1 rv xs ∧ IStep v s q.ct y1.ct v1
 st2 : l.getD 5 false = true → ∃ y1 y2 r1 v1 rv1 xs1, R11 w (f 2) y1 ∧ R11 w (f 5) y2 ∧ PM w0 w M D P r1 v1 rv1 xs1 ∧ IStep v s q.ct y1.ct v1 ∧ PStep xs q.ct y2.ct xs1
 a6 : l.getD 6 false = true → A11 w0 w (f 6) (l.getD 8 false) (f 2)
 a7 : l.getD 7 false = true → A11 w0 w (f 7) (l.getD 9 false) (f 5)
 ne : l.getD 6 false = true → l.getD 7 false = true → f 6 ≠ f 7
section
variable {w0 w w' : World} {M : Nat} {D : Nat → Nat} {P s g : Nat} {r r1 : Nat → Value} {v v1 : Nat → List Vt} {rv rv1 : Value} {xs xs1 : List Vt} {q : Qt} {B2 M2 : Nat} {D2 : Nat → Nat} {r2 : Nat → Value} {v2 : Nat → List Vt} {l : Array Bool} {f : Nat → Value} {x : Value} {y : Rt}
theorem Q11.ext (h : Q11 w0 M D P r v rv xs s g q B2 M2 D2 r2 v2 l f w) (k : Ex w w') : Q11 w0 M D P r v rv xs s g q B2 M2 D2 r2 v2 l f w' :=
 ⟨h.c.ext k, fun a => (h.st0 a).ext k, fun a b => by obtain ⟨y1, r1, v1, h1, h2, h3⟩ := h.st1 a b; exact ⟨y1, r1, v1, h1.ext k, h2.ext k, h3⟩, fun a => by obtain ⟨y1, y2, r1, v1, rv1, xs1, h1, h2, h3, h4⟩ := h.st2 a; exact ⟨y1, y2, r1, v1, rv1, xs1, h1.ext k, h2.ext k, h3.ext k, h4⟩, fun a => (h.a6 a).ext k, fun a => (h.a7 a).ext k, h.ne⟩
theorem Q11.plain (h : Q11 w0 M D P r v rv xs s g q B2 M2 D2 r2 v2 l f w) (i : Nat) (hi : i ≠ 2 ∧ i ≠ 5 ∧ i ≠ 6 ∧ i ≠ 7 ∧ i ≠ 8 ∧ i ≠ 9) : Q11 w0 M D P r v rv xs s g q B2 M2 D2 r2 v2 (l.setIfInBounds i true) (upd f i x) w := by
 obtain ⟨i2, i5, i6, i7, i8, i9⟩ := hi
 refine ⟨h.c, ?_, ?_, ?_, ?_, ?_, ?_⟩
 ·rw [gset i2 false]; exact h.st0
 ·rw [gset i2 false, gset i5 false, upd_ne _ _ (Ne.symm i2)]; exact h.st1
 ·rw [gset i5 false, upd_ne _ _ (Ne.symm i2), upd_ne _ _ (Ne.symm i5)]; exact h.st2
 ·rw [gset i6 false, gset i8 false, upd_ne _ _ (Ne.symm i6), upd_ne _ _ (Ne.symm i2)]; exact h.a6
 ·rw [gset i7 false, gset i9 false, upd_ne _ _ (Ne.symm i7), upd_ne _ _ (Ne.symm i5)]; exact h.a7
 rw [gset i6 false, gset i7 false, upd_ne _ _ (Ne.symm i6), upd_ne _ _ (Ne.symm i7)]; exact h.ne
theorem Q11.s9 {a : Nat} {cs : Array Value} (h : Q11 w0 M D P r v rv xs s g q B2 M2 D2 r2 v2 l f w) (hl : 9 < l.size) (h2 : l.getD 2 false = true) (h5 : l.getD 5 false = true) (h7 : l.getD 7 false = true) (e7 : f 7 = .pointer (some ⟨a, 0, none⟩)) (lo : w0.heap.size ≤ a) (hb : Bk w a 83 cs) (ho : Only a w w') (hf : f 5 = y.V) (hr : RB w' a y) : Q11 w0 M D P r v rv xs s g q B2 M2 D2 r2 v2 (l.setIfInBounds 9 true) (upd f 9 x) w' := by
 refine ⟨h.c.only ho lo hb, ?_, ?_, ?_, ?_, ?_, ?_⟩
 ·rw [gset (by decide) false, h2]; intro e; cases e
 ·rw [gset (show (9 : Nat) ≠ 5 by decide) false, h5]; intro _ e; cases e
 ·rw [gset (by decide) false, upd_ne _ _ (by decide), upd_ne _ _ (by decide)]
  intro b
  obtain ⟨y1, y2, r1, v1, rv1, xs1, h1, h2, h3, h4⟩ := h.st2 b
  exact ⟨y1, y2, r1, v1, rv1, xs1, h1.only ho hb, h2.only ho hb, h3.only ho lo hb, h4⟩
 ·rw [gset (by decide) false, gset (by decide) false, upd_ne _ _ (by decide), upd_ne _ _ (by decide)]
  exact fun b => (h.a6 b).only ho (fun e => h.ne b h7 (by rw [e7, e]))
 ·rw [upd_ne _ _ (by decide), upd_ne _ _ (by decide), e7]
  exact fun _ => ⟨a, y.C.toArray, rfl, lo, hr.2, by rw [List.size_toArray, Rt.len hr.1], fun _ => hf⟩
 rw [gset (by decide) false, gset (by decide) false, upd_ne _ _ (by decide), upd_ne _ _ (by decide)]; exact h.ne
end
end Go.Proofs.Ytmjfnpmnhehnkaa
