/- Wg -/
import Derived.Test.YtmjfnpmnhehnkaaQbc
import Derived.Test.YtmjfnpmnhehnkaaQbf
import Derived.Test.YtmjfnpmnhehnkaaQbg
namespace Go.Proofs.Ytmjfnpmnhehnkaa
open Go.RowKit
def PStep (xs : List Vt) (q : Qc) (y : Rc) (xs' : List Vt) : Prop :=
 (q.right = false ∧ y = errRc ∧ xs' = xs) ∨ (q.right = true ∧ ∃ (x : Vt) (k : Int), GetP xs q.id x k ∧ Kept q.id x.ct ∧
  (((doC x.ct q).2.2 = false ∧ y = (doC x.ct q).2.1 ∧ xs' = xs) ∨
  ((doC x.ct q).2.2 = true ∧ k < 0 ∧ 4 ≤ cntS xs q.id ∧ y = (repRt 13 q.id q.client q.num).ct ∧ xs' = xs) ∨
  ((doC x.ct q).2.2 = true ∧ y = (doC x.ct q).2.1 ∧ ∃ z : Vt, z.ct = (doC x.ct q).1 ∧ ((k < 0 ∧ cntS xs q.id < 4 ∧ xs' = xs ++ [z]) ∨ ∃ j : Nat, k = (j : Int) ∧ j < xs.length ∧ xs' = xs.set j z))))
def PDoPost (w0 : World) (P : Nat) (rv : Value) (xs : List Vt) (q : Qt) (w : World) (e : Ending) (w' : World) : Prop := ∃ (y : Rt) (rv' : Value) (xs' : List Vt), e = .returned y.V ∧ y.Ok ∧ PN w' w.heap.size y.sec ∧ PB w0 w' P rv' xs' ∧ PStep xs q.ct y.ct xs' ∧ Md P w w' ∧ Lies w rv rv'
theorem Md.then {P : Nat} {w a b : World} (h : Md P w a) (k : Below w.heap.size a b) (hP : P < w.heap.size) : Md P w b :=
 ⟨fun B hB x hx => Below.trans (h.below B hB x hx) (k.mono (by omega)), fun i hi hl => (k.block i hl).trans (h.other i hi hl), Nat.le_trans h.size k.size⟩
theorem PB.kt {S : List Nat} {w0 w w' : World} {P : Nat} {rv : Value} {xs : List Vt} (h : PB w0 w P rv xs) (k : Kt S w0.heap.size w w') (h1 : 134 ∉ S) (h2 : 36 ∉ S) (h3 : 5 ∉ S) : PB w0 w' P rv xs :=
 ⟨k.bk h.blk h1, k.row h.row h2, fun i x hx => ⟨(h.ins i x hx).ok, (h.ins i x hx).sec.kt k h3, (h.ins i x hx).len⟩, h.lo, Nat.le_trans h.sz k.size⟩
theorem getp_px {w0 w : World} {P : Nat} {rv : Value} {xs : List Vt} (h : PB w0 w P rv xs) {id : List UInt8} {x : Vt} {k : Int} (hg : GetP xs id x k) : PX w0 w x := by
 rcases hg with ⟨_, rfl, _⟩ | ⟨j, _, hx, _⟩
 ·exact ⟨zeroVt_ok, Or.inr (nilB_pn _ _), by decide⟩
 exact h.ins j x hx
theorem getp_kept {xs : List Vt} (hr : ∀ x ∈ xs, x.ct.right = true) {id : List UInt8} {x : Vt} {k : Int} (hg : GetP xs id x k) : Kept id x.ct := by
 rcases hg with ⟨_, rfl, _⟩ | ⟨j, _, hx, hid⟩
 ·exact Or.inl rfl
 exact Or.inr ⟨hr x (List.mem_of_getElem? hx), hid⟩
theorem PX.vi {w0 w : World} {x : Vt} (h : PX w0 w x) (hs : w0.heap.size ≤ w.heap.size) : VI w x := ⟨h.ok, h.sec.inn hs⟩
theorem own_sl {w : World} {B : Nat} {e : TypeId} {sz n : Nat} {v : Value} {xs : List Value} (h : w.ownsRow B e sz v n xs) : v.oneCell' = true ∧ ∃ ad cap, v = .slice ad n cap := by
 obtain ⟨ad, cap, rfl, _⟩ := own_rd h
 exact ⟨rfl, ad, cap, rfl⟩
/-- the map anew, the answer, where it goes -/
structure F12 (w0 w : World) (P B g8 : Nat) (r : Rt) (rv : Value) (xs : List Vt) (wz : World) : Prop where
 blk : Bk wz P 134 #[rv]
 row : wz.ownsRow w.heap.size 36 42 rv xs.length (xs.flatMap Vt.C)
 ins : ∀ x ∈ xs, PX w0 wz x
 rb : RB wz g8 r
 rs : PN wz w.heap.size r.sec
 r0 : RB wz B zeroRt
 md : Md P w wz
theorem PX.kt {S : List Nat} {w0 w w' : World} {x : Vt} (h : PX w0 w x) (k : Kt S w0.heap.size w w') (hu : 5 ∉ S) : PX w0 w' x := ⟨h.ok, h.sec.kt k hu, h.len⟩
theorem Kt.less {S : List Nat} {B B' : Nat} {w w' : World} (h : Kt S B w w') (hB : B' ≤ B) : Kt S B' w w' := ⟨h.below.mono hB, h.typ⟩
/-- vaults alone are turned, and what's new; the row is another one -/
theorem F12.kt {w0 w : World} {P B g8 : Nat} {r : Rt} {rv rv' : Value} {xs xs' : List Vt} {wz w' : World} (h : F12 w0 w P B g8 r rv xs wz) (k : Kt [36] w.heap.size wz w') (hP : P < w.heap.size) (h0 : w0.heap.size ≤ w.heap.size) (hb : Bk w' P 134 #[rv']) (hr : w'.ownsRow w.heap.size 36 42 rv' xs'.length (xs'.flatMap Vt.C)) (hx : ∀ x ∈ xs', x ∈ xs ∨ PX w0 wz x) : F12 w0 w P B g8 r rv' xs' w' :=
 ⟨hb, hr, fun x hi => by
  rcases hx x hi with hm | hp
  ·exact (h.ins x hm).kt (k.less h0) (by decide)
  exact hp.kt (k.less h0) (by decide), ⟨h.rb.1, k.bk h.rb.2 (by decide)⟩, h.rs.kt k (by decide), ⟨h.r0.1, k.bk h.r0.2 (by decide)⟩, h.md.then k.below hP⟩
theorem F12.ext {w0 w : World} {P B g8 : Nat} {r : Rt} {rv : Value} {xs : List Vt} {wz w' : World} (h : F12 w0 w P B g8 r rv xs wz) (k : Ex wz w') (hP : P < w.heap.size) (h0 : w0.heap.size ≤ w.heap.size) : F12 w0 w P B g8 r rv xs w' :=
 h.kt (k.kt h.md.size) hP h0 (h.blk.ext k) (k.row h.row) (fun _ hx => Or.inl hx)
theorem F12.pb {w0 w : World} {P B g8 : Nat} {r : Rt} {rv : Value} {xs : List Vt} {wz : World} (h : F12 w0 w P B g8 r rv xs wz) (lo : w0.heap.size ≤ P) (h0 : w0.heap.size ≤ w.heap.size) : PB w0 wz P rv xs :=
 ⟨h.blk, rown_less h.row h0, fun i x hx => h.ins x (List.mem_of_getElem? hx), lo, Nat.le_trans h0 h.md.size⟩
/-- the map's row is another one: the store -/
theorem F12.st {w0 w : World} {P B g8 : Nat} {r : Rt} {rv rv' : Value} {xs xs' : List Vt} {wz w' : World} (h : F12 w0 w P B g8 r rv xs wz) (lo : w0.heap.size ≤ P) (hb : Bk w' P 134 #[rv']) (ho : Only P wz w') (hr : wz.ownsRow w.heap.size 36 42 rv' xs'.length (xs'.flatMap Vt.C)) (hx : ∀ x ∈ xs', PX w0 wz x) : F12 w0 w P B g8 r rv' xs' w' := by
 have k : Kt [134] w0.heap.size wz w' := Kt.md ho.md lo h.blk (List.mem_singleton.2 rfl)
 exact ⟨hb, k.row hr (by decide), fun x hi => (hx x hi).kt k (by decide), ⟨h.rb.1, k.bk h.rb.2 (by decide)⟩, h.rs.kt k (by decide), ⟨h.r0.1, k.bk h.r0.2 (by decide)⟩, h.md.trans ho.md⟩
/-- a vault is stored into the row -/
theorem F12.set {w0 w : World} {P B g8 : Nat} {r : Rt} {rv : Value} {xs : List Vt} {wz : World} (h : F12 w0 w P B g8 r rv xs wz) (hP : P < w.heap.size) (h0 : w0.heap.size ≤ w.heap.size) (p : Nat) (hp : p < xs.length) : ∃ (g cap : Nat) (C : List Value), rv = .slice (some ⟨g, 0, none⟩) xs.length cap ∧ Bk wz g 36 C.toArray ∧ p * 42 + 42 ≤ C.length ∧
  ∀ z, PX w0 wz z → ∀ w', Bk w' g 36 (C.take (p * 42) ++ z.C ++ C.drop (p * 42 + z.C.length)).toArray → Only g wz w' → F12 w0 w P B g8 r rv (xs.set p z) w' := by
 obtain ⟨g, cap, C, hv, hB, hb, hl, _, hset⟩ := own_store h.row p hp
 refine ⟨g, cap, C, hv, hb, hl, fun z hz w' hd ho => ?_⟩
 have hk : Kt [36] w.heap.size wz w' := Kt.md ho.md hB hb (List.mem_singleton.2 rfl)
 refine h.kt hk hP h0 (hk.bk h.blk (by decide)) ?_ (fun x hx => ?_)
 ·rw [vflat_set (fun i x hx => (h.ins x (List.mem_of_getElem? hx)).ok) p hp z hz.ok, List.length_set]
  exact hset z.C (Vt.len hz.ok) w' hd
 rcases List.mem_or_eq_of_mem_set hx with hm | rfl
 ·exact Or.inl hm
 exact Or.inr hz
structure G12 (w0 w : World) (P B g8 : Nat) (r : Rt) (rv : Value) (wz : World) : Prop where
 blk : Bk wz P 134 #[rv]
 rb : RB wz g8 r
 rs : PN wz w.heap.size r.sec
 r0 : RB wz B zeroRt
 md : Md P w wz
theorem G12.st {w0 w : World} {P B g8 : Nat} {r : Rt} {rv rv' : Value} {xs' : List Vt} {wz w' : World} (h : G12 w0 w P B g8 r rv wz) (lo : w0.heap.size ≤ P) (hb : Bk w' P 134 #[rv']) (ho : Only P wz w') (hr : wz.ownsRow w.heap.size 36 42 rv' xs'.length (xs'.flatMap Vt.C)) (hx : ∀ x ∈ xs', PX w0 wz x) : F12 w0 w P B g8 r rv' xs' w' := by
 have k : Kt [134] w0.heap.size wz w' := Kt.md ho.md lo h.blk (List.mem_singleton.2 rfl)
 exact ⟨hb, k.row hr (by decide), fun x hi => (hx x hi).kt k (by decide), ⟨h.rb.1, k.bk h.rb.2 (by decide)⟩, h.rs.kt k (by decide), ⟨h.r0.1, k.bk h.r0.2 (by decide)⟩, h.md.trans ho.md⟩
def St12 (w0 w w10 : World) (P B g8 : Nat) (r : Rt) (rv : Value) (xs' : List Vt) (b : Bool) (wz : World) : Prop := (b = false → Ex w10 wz) ∧ (b = true → F12 w0 w P B g8 r rv xs' wz)
structure S11 (w0 w w10 : World) (P B g8 : Nat) (r : Rt) (rv1 : Value) (xs : List Vt) (z : Vt) (l : Array Bool) (f : Nat → Value) (wz : World) : Prop where
 pre : l.getD 7 false = false → Ex w10 wz
 e6 : l.getD 6 false = true → l.getD 7 false = false → ∃ g, f 6 = .slice (some ⟨g, 0, none⟩) 1 1 ∧ Bk wz g 36 z.C.toArray
 e7 : l.getD 7 false = true → l.getD 10 false = false → wz.ownsRow w.heap.size 36 42 (f 7) (xs ++ [z]).length ((xs ++ [z]).flatMap Vt.C) ∧ (∀ x ∈ xs ++ [z], PX w0 wz x) ∧ G12 w0 w P B g8 r rv1 wz
 fin : l.getD 10 false = true → ∃ rv, F12 w0 w P B g8 r rv (xs ++ [z]) wz
section
variable {w0 w w10 : World} {P B g8 : Nat} {r : Rt} {rv1 : Value} {xs : List Vt} {z : Vt} {l : Array Bool} {f : Nat → Value} {wz w' : World} {x : Value}
theorem S11.plain (h : S11 w0 w w10 P B g8 r rv1 xs z l f wz) (i : Nat) (hi : i ≠ 6 ∧ i ≠ 7 ∧ i ≠ 10) : S11 w0 w w10 P B g8 r rv1 xs z (l.setIfInBounds i true) (upd f i x) wz := by
 refine ⟨?_, ?_, ?_, ?_⟩
 ·rw [gset hi.2.1 false]; exact h.pre
 ·rw [gset hi.1 false, gset hi.2.1 false, upd_ne _ _ (Ne.symm hi.1)]; exact h.e6
 ·rw [gset hi.2.1 false, gset hi.2.2 false, upd_ne _ _ (Ne.symm hi.2.1)]; exact h.e7
 rw [gset hi.2.2 false]; exact h.fin
theorem S11.s6 (h : S11 w0 w w10 P B g8 r rv1 xs z l f wz) (h7 : l.getD 7 false = false) (h10 : l.getD 10 false = false) : S11 w0 w w10 P B g8 r rv1 xs z (l.setIfInBounds 6 true) (upd f 6 (.slice (some ⟨wz.heap.size, 0, none⟩) 1 1)) (wz.alloc (.cells z.C.toArray 36)) := by
 refine ⟨?_, ?_, ?_, ?_⟩
 ·rw [gset (by decide) false]; exact fun e => Ex.trans (h.pre e) (Ex.alloc _ _)
 ·rw [upd_same]; exact fun _ _ => ⟨_, rfl, Bk.new rfl _ _⟩
 ·rw [gset (by decide) false, h7]; intro e; cases e
 rw [gset (by decide) false, h10]; intro e; cases e
theorem S11.s7 (h : S11 w0 w w10 P B g8 r rv1 xs z l f wz) (hl : 7 < l.size) (h10 : l.getD 10 false = false) (hr : w'.ownsRow w.heap.size 36 42 x (xs ++ [z]).length ((xs ++ [z]).flatMap Vt.C)) (hx : ∀ x ∈ xs ++ [z], PX w0 w' x) (hf : G12 w0 w P B g8 r rv1 w') : S11 w0 w w10 P B g8 r rv1 xs z (l.setIfInBounds 7 true) (upd f 7 x) w' := by
 refine ⟨?_, ?_, ?_, ?_⟩
 ·rw [set_new hl]; intro e; cases e
 ·rw [set_new hl]; intro _ e; cases e
 ·rw [upd_same]; exact fun _ _ => ⟨hr, hx, hf⟩
 rw [gset (by decide) false, h10]; intro e; cases e
theorem S11.s10 (hl : 10 < l.size) (h7 : l.getD 7 false = true) (hf : ∃ rv, F12 w0 w P B g8 r rv (xs ++ [z]) w') : S11 w0 w w10 P B g8 r rv1 xs z (l.setIfInBounds 10 true) (upd f 10 x) w' := by
 refine ⟨?_, ?_, ?_, ?_⟩
 ·rw [gset (by decide) false, h7]; intro e; cases e
 ·rw [gset (show (10 : Nat) ≠ 7 by decide) false, h7]; intro _ e; cases e
 ·rw [set_new hl]; intro _ e; cases e
 exact fun _ => hf
end
theorem pair_facts {wk wb wc : World} {v : Vt} {r : Rt} {a b : Obj} (o1 : Only wk.heap.size ((wk.alloc a).alloc b) wb) (d1 : VB wb wk.heap.size v) (o2 : Only (wk.heap.size + 1) wb wc) (d2 : RB wc (wk.heap.size + 1) r) : VB wc wk.heap.size v ∧ RB wc (wk.heap.size + 1) r ∧ Ex wk wc :=
 ⟨o2.vb d1 (by omega), d2, o2.below _ (Nat.le_succ _) _ (o1.below _ (Nat.le_refl _) _ (Ex.trans (Ex.alloc _ _) (Ex.alloc _ _)))⟩
set_option maxHeartbeats 8000000 in
set_option maxRecDepth 100000 in
theorem pdo_any (w0 : World) (P : Nat) (rv : Value) (xs : List Vt) (q : Qt) (w : World) (h : PB w0 w P rv xs) (hr : ∀ x ∈ xs, x.ct.right = true) (hl : xs.length ≤ 1000) (hq : QI w q) (hqs : SK w0 w q.sec) : Calls Try.prog 72 #[.pointer (some ⟨P, 0, none⟩), q.V] w (PDoPost w0 P rv xs q w) := by
 have HP := Lib.hid h
 have HR := Lib.hid hr
 have HL := Lib.hid hl
 have HQI := Lib.hid hq
 have HQS := Lib.hid hqs
 have HPL := Lib.hid h.blk.lt
 obtain ⟨ds, hds⟩ : ∃ ds, ds = q.C.toArray := ⟨_, rfl⟩
 have Q0 : Hid (QB ((w.alloc (.cells ds 86)).alloc (.cells zeroRt.C.toArray 83)) w.heap.size q) := Lib.hid ⟨hq.1, by rw [hds]; exact (Bk.new rfl _ _).more _⟩
 have R0 : Hid (RB ((w.alloc (.cells ds 86)).alloc (.cells zeroRt.C.toArray 83)) (w.heap.size + 1) zeroRt) := Lib.hid ⟨zeroRt_ok, Bk.new (by simp) _ _⟩
 have BW : Hid (Ex w ((w.alloc (.cells ds 86)).alloc (.cells zeroRt.C.toArray 83))) := Lib.hid (Ex.trans (Ex.alloc w _) (Ex.alloc _ _))
 rw [show (Calls Try.prog 72 #[.pointer (some ⟨P, 0, none⟩), q.V] w) = (Calls Try.prog 72 #[.pointer (some ⟨P, 0, none⟩), .agg ds] w) by rw [hds]; rfl]
 obtain ⟨rq, hrq⟩ : ∃ b, b = q.ct.right := ⟨_, rfl⟩
 have HRQ := Lib.hid hrq
 clear hds h hr hl hq hqs hrq
 go_enter Try.func72, Try.ntmps72
 go_wp2_with (first | ((with_reducible refine so2 [1000+37] ?_ ?_); (focus rfl)) | (with_reducible refine stop_bs ?_) | (with_reducible refine stop_app ?_))
 (with_reducible refine ⟨?_⟩)
 change wpList _ _ _ _ _ ((w.alloc (.cells ds 86)).alloc (.cells zeroRt.C.toArray 83))
 generalize hw1 : ((w.alloc (.cells ds 86)).alloc (.cells zeroRt.C.toArray 83)) = w1 at *
 clear hw1
 obtain ⟨B, hB⟩ : ∃ B, B = w.heap.size := ⟨_, rfl⟩
 rw [← hB] at Q0 R0 ⊢
 have HB := Lib.hid hB
 clear hB
 go_wp2_with (first | ((with_reducible refine so2 [1000+37] ?_ ?_); (focus rfl)) | (with_reducible refine stop_bs ?_) | (with_reducible refine stop_app ?_))
 (with_reducible refine at9 ?_ ?_); (focus go_simp); refine fun K0 hK => ld_q _ _ q rfl rfl Q0.out (hK _ _ ?_)
 clear hK
 go_wp2_with (first | ((with_reducible refine so2 [1000+37] ?_ ?_); (focus rfl)) | (with_reducible refine stop_bs ?_) | (with_reducible refine stop_app ?_))
 refine (rqright_any q _ (HQI.out.ext BW.out)).mono ?_
 rintro e w2 ⟨rfl, x2⟩
 rw [← HRQ.out]
 replace Q0 := Lib.hid (Q0.out.ext x2)
 replace R0 := Lib.hid (R0.out.ext x2)
 replace BW := Lib.hid (Ex.trans BW.out x2)
 clear x2
 cases rq
 case false =>
  go_wp2_with (first | ((with_reducible refine so2 [1000+37] ?_ ?_); (focus rfl)) | (with_reducible refine stop_bs ?_) | (with_reducible refine stop_app ?_))
  (with_reducible refine at9 ?_ ?_); (focus go_simp); refine fun K0 hK => wp_build _ _ rfl _ built_err (hK _ _ ?_)
  clear hK
  go_wp2_with (first | ((with_reducible refine so2 [1000+37] ?_ ?_); (focus rfl)) | (with_reducible refine stop_bs ?_) | (with_reducible refine stop_app ?_))
  (with_reducible refine at9 ?_ ?_); (focus go_simp); refine fun K0 hK => st_r _ _ (B + 1) (repRt 12 z4 0 0) rfl rfl rfl (repRt_ok (by decide) (by decide) rfl (by decide) (by decide) (by decide) (by decide)) R0.out.2 (by rw [List.size_toArray, Rt.len R0.out.1]) (fun wz hd ho => hK _ _ ?_)
  clear hK
  have hkt : Kt [83] w0.heap.size w2 wz := Kt.md ho.md (by have h1 := HP.out.lo; have h2 := HPL.out; have := HB.out; omega) R0.out.2 (List.mem_singleton.2 rfl)
  have HPZ := Lib.hid ((HP.out.ext BW.out).kt hkt (by decide) (by decide) (by decide))
  have HPN := Lib.hid (show PN wz w.heap.size ((repRt 12 z4 0 0)).sec from PN.onlyT (nilB_pn _ _) ho R0.out.2 (by decide))
  have BZ := Lib.hid (ho.below w.heap.size (by rw [← HB.out]; omega) w BW.out)
  have HD := Lib.hid hd
  clear hd ho hkt
  go_wp2_with fail
  exact bodyPost_ret (res_r rfl _ _ (B + 1) rfl ((repRt 12 z4 0 0)) HD.out) rfl ⟨(repRt 12 z4 0 0), rv, xs, rfl, HD.out.1, HPN.out, HPZ.out, Or.inl ⟨HRQ.out.symm, rfl, rfl⟩, Ex.md BZ.out (Nat.le_of_lt HPL.out), Or.inl rfl⟩
 case true =>
  go_wp2_with (first | ((with_reducible refine so2 [1000+37] ?_ ?_); (focus rfl)) | (with_reducible refine stop_bs ?_) | (with_reducible refine stop_app ?_))
  (with_reducible refine at9 ?_ ?_); (focus go_simp); refine fun K0 hK => ld_qid _ _ q rfl rfl Q0.out (hK _ _ ?_)
  clear hK
  go_wp2_with (first | ((with_reducible refine so2 [1000+37] ?_ ?_); (focus rfl)) | (with_reducible refine stop_bs ?_) | (with_reducible refine stop_app ?_))
  refine (pget_any w0 P rv xs q.id HQI.out.1.idN _ (HP.out.ext BW.out)).mono ?_
  rintro e w3 ⟨x, k, rfl, hgp, x3⟩
  have HGP := Lib.hid hgp
  clear hgp
  replace Q0 := Lib.hid (Q0.out.ext x3)
  replace R0 := Lib.hid (R0.out.ext x3)
  replace BW := Lib.hid (Ex.trans BW.out x3)
  clear x3
  have PXX := Lib.hid (getp_px (HP.out.ext BW.out) HGP.out)
  have KPT := Lib.hid (getp_kept HR.out HGP.out)
  have HS3 := Lib.hid (Nat.le_trans HP.out.sz (Below.size BW.out))
  go_wp2_with (first | ((with_reducible refine so2 [1000+37] ?_ ?_); (focus rfl)) | (with_reducible refine stop_bs ?_) | (with_reducible refine stop_app ?_))
  (with_reducible refine at9 ?_ ?_); (focus go_simp); refine fun K0 hK => st_v _ _ w3.heap.size x rfl rfl rfl PXX.out.ok (Bk.new rfl _ _) (by rfl) (fun w4 hd ho => hK _ _ ?_)
  clear hK
  have x4 : Ex w3 w4 := ho.below w3.heap.size (Nat.le_refl _) w3 (Ex.alloc w3 _)
  replace Q0 := Lib.hid (Q0.out.ext x4)
  replace R0 := Lib.hid (R0.out.ext x4)
  replace BW := Lib.hid (Ex.trans BW.out x4)
  clear x4
  obtain ⟨g5, hg⟩ : ∃ g, g = w3.heap.size := ⟨_, rfl⟩
  rw [← hg] at hd ⊢
  have X0 := Lib.hid hd
  clear hd ho hg
  go_wp2_with (first | ((with_reducible refine so2 [1000+37] ?_ ?_); (focus rfl)) | (with_reducible refine stop_bs ?_) | (with_reducible refine stop_app ?_))
  (with_reducible refine at9 ?_ ?_); (focus go_simp); refine fun K0 hK => ld_v _ _ x rfl rfl X0.out (hK _ _ ?_)
  clear hK
  go_wp2_with (first | ((with_reducible refine so2 [1000+37] ?_ ?_); (focus rfl)) | (with_reducible refine stop_bs ?_) | (with_reducible refine stop_app ?_))
  (with_reducible refine at9 ?_ ?_); (focus go_simp); refine fun K0 hK => ld_q _ _ q rfl rfl Q0.out (hK _ _ ?_)
  clear hK
  go_wp2_with (first | ((with_reducible refine so2 [1000+37] ?_ ?_); (focus rfl)) | (with_reducible refine stop_bs ?_) | (with_reducible refine stop_app ?_))
  have PX4 := Lib.hid (getp_px (HP.out.ext BW.out) HGP.out)
  refine (rdo_any x q w4 (PX4.out.vi (Nat.le_trans HP.out.sz (Below.size BW.out))) (Nat.le_trans PX4.out.len (by decide)) (HQI.out.ext BW.out)).mono ?_
  rintro e w5 ⟨v', r', b, rfl, hdo, hvo, hvs, hro, hrs, x5⟩
  have HDO := Lib.hid hdo
  have HVO := Lib.hid hvo
  have HVS := Lib.hid hvs
  have HRO := Lib.hid hro
  have HRS := Lib.hid (hrs.less BW.out.sz)
  clear hdo hvo hvs hro hrs PX4 PXX HS3
  replace Q0 := Lib.hid (Q0.out.ext x5)
  replace R0 := Lib.hid (R0.out.ext x5)
  replace BW := Lib.hid (Ex.trans BW.out x5)
  clear x5
  clear X0
  go_wp2_with (first | ((with_reducible refine so2 [1000+37] ?_ ?_); (focus rfl)) | (with_reducible refine stop_bs ?_) | (with_reducible refine stop_app ?_))
  (with_reducible refine at9 ?_ ?_); (focus go_simp); refine fun K0 hK => st_v _ _ w5.heap.size v' rfl rfl rfl HVO.out ((Bk.new rfl _ _).more _) (by rfl) (fun w6 d1 o1 => hK _ _ ?_)
  clear hK
  have Y1 : Hid (Bk w6 (w5.heap.size + 1) 83 zeroRt.C.toArray) := Lib.hid (o1.bk (Bk.new (by simp) _ _) (by omega))
  have D1 := Lib.hid d1
  have O1 := Lib.hid o1
  clear d1 o1
  go_wp2_with (first | ((with_reducible refine so2 [1000+37] ?_ ?_); (focus rfl)) | (with_reducible refine stop_bs ?_) | (with_reducible refine stop_app ?_))
  (with_reducible refine at9 ?_ ?_); (focus go_simp); refine fun K0 hK => st_r _ _ (w5.heap.size + 1) r' rfl rfl rfl HRO.out Y1.out (by rfl) (fun w7 d2 o2 => hK _ _ ?_)
  clear hK
  obtain ⟨gv, gr, xx⟩ := pair_facts O1.out D1.out o2 d2
  clear D1 O1 Y1 o2 d2
  replace Q0 := Lib.hid (Q0.out.ext xx)
  replace R0 := Lib.hid (R0.out.ext xx)
  replace HRS := Lib.hid (HRS.out.ext xx)
  replace BW := Lib.hid (Ex.trans BW.out xx)
  obtain ⟨g8, hgn⟩ : ∃ g, g = w5.heap.size := ⟨_, rfl⟩
  rw [← hgn] at gv gr ⊢
  have g8S := Lib.hid hgn
  have g8V := Lib.hid gv
  have g8R := Lib.hid gr
  clear gv gr xx hgn
  cases b
  case false =>
   go_wp2_with (first | ((with_reducible refine so2 [1000+37] ?_ ?_); (focus rfl)) | (with_reducible refine stop_bs ?_) | (with_reducible refine stop_app ?_))
   (with_reducible refine at9 ?_ ?_); (focus go_simp); refine fun K0 hK => ld_r _ _ r' rfl rfl g8R.out (hK _ _ ?_)
   clear hK
   go_wp2_with (first | ((with_reducible refine so2 [1000+37] ?_ ?_); (focus rfl)) | (with_reducible refine stop_bs ?_) | (with_reducible refine stop_app ?_))
   (with_reducible refine at9 ?_ ?_); (focus go_simp); refine fun K0 hK => st_r _ _ (B + 1) r' rfl rfl rfl HRO.out R0.out.2 (by rw [List.size_toArray, Rt.len R0.out.1]) (fun wz hd ho => hK _ _ ?_)
   clear hK
   have hkt : Kt [83] w0.heap.size w7 wz := Kt.md ho.md (by have h1 := HP.out.lo; have h2 := HPL.out; have := HB.out; omega) R0.out.2 (List.mem_singleton.2 rfl)
   have HPZ := Lib.hid ((HP.out.ext BW.out).kt hkt (by decide) (by decide) (by decide))
   have HPN := Lib.hid (show PN wz w.heap.size (r').sec from PN.onlyT (HRS.out) ho R0.out.2 (by decide))
   have BZ := Lib.hid (ho.below w.heap.size (by rw [← HB.out]; omega) w BW.out)
   have HD := Lib.hid hd
   clear hd ho hkt
   go_wp2_with fail
   exact bodyPost_ret (res_r rfl _ _ (B + 1) rfl (r') HD.out) rfl ⟨r', rv, xs, rfl, HD.out.1, HPN.out, HPZ.out, Or.inr ⟨HRQ.out.symm, x, k, HGP.out, KPT.out, Or.inl ⟨(congrArg (fun c => c.2.2) HDO.out).symm, (congrArg (fun c => c.2.1) HDO.out), rfl⟩⟩, Ex.md BZ.out (Nat.le_of_lt HPL.out), Or.inl rfl⟩
  case true =>
   have PBX := Lib.hid (HP.out.ext BW.out)
   obtain ⟨ad, cap, erv, hin, hcap⟩ := PBX.out.inn
   obtain ⟨ad2, cap2, erv2, hnil, hcap2, hcm, hrd⟩ := own_rd PBX.out.row
   rw [erv] at erv2
   cases erv2
   have RX := Lib.hid (And.intro hnil (And.intro hcap2 hrd))
   have ERV := Lib.hid erv
   have c0 : w7.cell? ⟨P, 0, none⟩ = some (.slice ad xs.length cap) := by rw [PBX.out.blk.cell, ← erv]; rfl
   clear hin hcap hnil hcap2 hcm hrd erv
   have DC1 := Lib.hid (congrArg (fun c => c.1) HDO.out)
   have DC2 := Lib.hid (congrArg (fun c => c.2.1) HDO.out)
   have DC3 := Lib.hid (congrArg (fun c => c.2.2) HDO.out)
   have VRT := Lib.hid (doC_changed HRQ.out.symm KPT.out DC3.out.symm)
   have h0sz := HP.out.sz
   have hPlt := HPL.out
   have HLO := Lib.hid HP.out.lo
   have PXV : Hid (PX w0 w7 v') := Lib.hid (by
    refine ⟨HVO.out, ?_, ?_⟩
    ·rcases HVS.out with e | e | e
     ·rw [e]; exact (getp_px PBX.out HGP.out).sec
     ·rw [e]; exact HQS.out.ext HP.out.sz BW.out
     rw [e]; exact Or.inr (nilB_pn _ _)
    have h1 := VRT.out.1
    rw [← show v'.ct = _ from DC1.out] at h1
    exact (Vc.right_sec h1).1)
   rcases HGP.out with ⟨hk1, hx0, hno⟩ | ⟨j, hkj, hxj, hxid⟩
   ·subst hk1
    by_cases hc : 4 ≤ cntS xs q.id
    ·have q2 : (cntS xs q.id : Int) ≥ 4 := by omega
     go_wp2_with (first | ((with_reducible refine so2 [1000+37] ?_ ?_); (focus rfl)) | (with_reducible refine stop_bs ?_) | (with_reducible refine stop_app ?_))
     (with_reducible refine at9 ?_ ?_); (focus go_simp); refine fun K0 hK => ld_qid _ _ q rfl rfl Q0.out (hK _ _ ?_)
     clear hK
     obtain ⟨q0, q21, q22, q55, q56⟩ := Q0.out.cells
     go_wp2_with (first | ((with_reducible refine so2 [1000+37] ?_ ?_); (focus rfl)) | (with_reducible refine stop_bs ?_) | (with_reducible refine stop_app ?_))
     (with_reducible refine at9 ?_ ?_); (focus go_simp); refine fun K0 hK => wp_build _ _ rfl _ (built_full q.id q.client q.num HQI.out.1.idN) (hK _ _ ?_)
     clear hK
     go_wp2_with (first | ((with_reducible refine so2 [1000+37] ?_ ?_); (focus rfl)) | (with_reducible refine stop_bs ?_) | (with_reducible refine stop_app ?_))
     (with_reducible refine at9 ?_ ?_); (focus go_simp); refine fun K0 hK => st_r _ _ (B + 1) (repRt 13 q.id q.client q.num) rfl rfl rfl (repRt_ok (by decide) (by decide) HQI.out.1.idN HQI.out.1.client0 HQI.out.1.client1 HQI.out.1.num0 HQI.out.1.num1) R0.out.2 (by rw [List.size_toArray, Rt.len R0.out.1]) (fun wz hd ho => hK _ _ ?_)
     clear hK
     have hkt : Kt [83] w0.heap.size w7 wz := Kt.md ho.md (by have h1 := HP.out.lo; have h2 := HPL.out; have := HB.out; omega) R0.out.2 (List.mem_singleton.2 rfl)
     have HPZ := Lib.hid ((HP.out.ext BW.out).kt hkt (by decide) (by decide) (by decide))
     have HPN := Lib.hid (show PN wz w.heap.size ((repRt 13 q.id q.client q.num)).sec from PN.onlyT (nilB_pn _ _) ho R0.out.2 (by decide))
     have BZ := Lib.hid (ho.below w.heap.size (by rw [← HB.out]; omega) w BW.out)
     have HD := Lib.hid hd
     clear hd ho hkt
     go_wp2_with fail
     exact bodyPost_ret (res_r rfl _ _ (B + 1) rfl ((repRt 13 q.id q.client q.num)) HD.out) rfl ⟨(repRt 13 q.id q.client q.num), rv, xs, rfl, HD.out.1, HPN.out, HPZ.out, Or.inr ⟨HRQ.out.symm, x, _, HGP.out, KPT.out, Or.inr (Or.inl ⟨DC3.out.symm, by decide, hc, rfl, rfl⟩)⟩, Ex.md BZ.out (Nat.le_of_lt HPL.out), Or.inl rfl⟩
    have q2 : ¬ (cntS xs q.id : Int) ≥ 4 := by omega
    replace c0 : (w7.alloc (.cells #[] 36)).cell? ⟨P, 0, none⟩ = some (.slice ad xs.length cap) := by rw [(PBX.out.ext (Ex.alloc w7 _)).blk.cell, ← ERV.out]; rfl
    go_wp2_with (first | ((with_reducible refine so2 [1000+37] ?_ ?_); (focus rfl)) | (with_reducible refine stop_app ?_))
    (with_reducible refine ⟨?_⟩)
    change wpList _ _ _ _ _ (w7.alloc (.cells #[] 36))
    have xa : Ex w7 (w7.alloc (.cells #[] 36)) := Ex.alloc w7 _
    have EM : Hid (Emp w.heap.size (w7.alloc (.cells #[] 36)) 36 (.slice (some ⟨w7.heap.size, 0, none⟩) 0 0)) := Lib.hid ⟨_, rfl, Below.size BW.out, Bk.new rfl _ _⟩
    replace RX := Lib.hid (And.intro RX.out.1 (And.intro RX.out.2.1 (RX.out.2.2.ext xa)))
    replace g8V := Lib.hid (g8V.out.ext xa)
    replace g8R := Lib.hid (g8R.out.ext xa)
    replace HRS := Lib.hid (HRS.out.ext xa)
    replace PBX := Lib.hid (PBX.out.ext xa)
    replace PXV : Hid (PX w0 (w7.alloc (.cells #[] 36)) v') := Lib.hid ⟨PXV.out.ok, PXV.out.sec.ext (Nat.le_trans HP.out.sz (Below.size BW.out)) xa, PXV.out.len⟩
    replace Q0 := Lib.hid (Q0.out.ext xa)
    replace R0 := Lib.hid (R0.out.ext xa)
    replace BW := Lib.hid (Ex.trans BW.out xa)
    clear xa
    generalize hw8 : (w7.alloc (.cells #[] 36)) = w8 at *
    obtain ⟨ge, hge⟩ : ∃ g, g = w7.heap.size := ⟨_, rfl⟩
    rw [← hge] at EM ⊢
    clear hw8 c0 hge
    (with_reducible refine at_any ?_ ?_); (focus go_simp); refine fun K0 hK => wp_rd0 _ _ 37 36 zeroVt.V 42 96 rfl Try.underlying37 Try.infoVt rfl (by decide) w.heap.size _ rfl EM.out (Below.size BW.out) ad xs.length cap (xs.flatMap Vt.C) rfl RX.out.2.2 RX.out.2.1 RX.out.1 (vflat_one xs) (by have := HL.out; omega) (by have := HL.out; omega) (fun v5 w9 r1 x9 => hK _ _ ?_)
    clear hK
    have RW := Lib.hid r1
    replace g8V := Lib.hid (g8V.out.ext x9)
    replace g8R := Lib.hid (g8R.out.ext x9)
    replace HRS := Lib.hid (HRS.out.ext x9)
    replace PXV : Hid (PX w0 w9 v') := Lib.hid ⟨PXV.out.ok, PXV.out.sec.ext (Nat.le_trans HP.out.sz (Below.size BW.out)) x9, PXV.out.len⟩
    replace PBX := Lib.hid (PBX.out.ext x9)
    clear r1 EM RX
    replace Q0 := Lib.hid (Q0.out.ext x9)
    replace R0 := Lib.hid (R0.out.ext x9)
    replace BW := Lib.hid (Ex.trans BW.out x9)
    clear x9
    go_wp2_with (first | ((with_reducible refine so2 [1000+37] ?_ ?_); (focus rfl)) | (with_reducible refine stop_app ?_))
    (with_reducible refine at9 ?_ ?_); (focus go_simp); refine fun K0 hK => wp_st1 (C := [rv]) _ _ P 0 v5 rfl rfl rfl PBX.out.blk (by simp) (by kernel_rfl) (own_sl RW.out).1 (fun w10 hd ho => hK _ _ ?_)
    clear hK
    skip
    have kt9 : Kt [134] w0.heap.size w9 w10 := Kt.md ho.md HLO.out PBX.out.blk (List.mem_singleton.2 rfl)
    have F1 : Hid (F12 w0 w P (B + 1) (g8 + 1) r' v5 xs w10) := Lib.hid ⟨hd, kt9.row RW.out (by decide), fun x hx => by
     obtain ⟨i, hi, e⟩ := List.getElem_of_mem hx
     exact (PBX.out.ins i x (by rw [List.getElem?_eq_getElem hi, e])).kt kt9 (by decide), ⟨g8R.out.1, kt9.bk g8R.out.2 (by decide)⟩, HRS.out.kt kt9 (by decide), ⟨R0.out.1, kt9.bk R0.out.2 (by decide)⟩, (Ex.md BW.out (Nat.le_of_lt hPlt)).trans ho.md⟩
    replace g8V : Hid (VB w10 g8 v') := Lib.hid ⟨g8V.out.1, kt9.bk g8V.out.2 (by decide)⟩
    replace PXV := Lib.hid (PXV.out.kt kt9 (by decide))
    obtain ⟨ad5, cap5, e5⟩ := (own_sl RW.out).2
    subst e5
    have c1 : w10.cell? ⟨P, 0, none⟩ = some (.slice ad5 xs.length cap5) := by rw [F1.out.blk.cell]; rfl
    clear hd ho kt9 PBX RW R0 g8R HRS BW Q0
    go_wp2_with fail
    have hS0 : ∀ (listed : Array Bool) (f : Nat → Value), (∀ i, listed.getD i false = false) → S11 w0 w w10 P (B + 1) (g8 + 1) r' (.slice ad5 xs.length cap5) xs v' listed f w10.drew := fun listed f h0 => ⟨fun _ => (Below.refl w10.heap.size w10).drew, (fun e => by rw [h0 6] at e; cases e), (fun e => by rw [h0 7] at e; cases e), fun e => by rw [h0 10] at e; cases e⟩
    obtain ⟨T, hT⟩ : ∃ T : List (Value → Prop), T = [(fun zz => zz = .pointer (some ⟨P, 0, none⟩)), (fun zz => zz = .pointer (some ⟨P, 0, none⟩)), (fun zz => zz = .pointer (some ⟨P, 0, none⟩)), (fun zz => zz = .pointer (some ⟨P, 0, none⟩)), (fun zz => zz = .slice ad5 xs.length cap5), (fun zz => zz = v'.V), (fun _ => True), (fun _ => True), (fun zz => zz = .pointer (some ⟨P, 0, none⟩)), (fun zz => zz = .pointer (some ⟨P, 0, none⟩)), (fun _ => True)] := ⟨_, rfl⟩
    refine wp_region_gen (JS T ([(7, 4), (7, 6), (6, 5), (10, 7)] : List (Nat × Nat)) (S11 w0 w w10 P (B + 1) (g8 + 1) r' (.slice ad5 xs.length cap5) xs v')) (by kernel_rfl) (by kernel_rfl) (by kernel_rfl) (fitB_spec (by kernel_rfl)) (fun listed f h => JS.start listed f h (hS0 listed f h)) ?_ ?_
    ·intro i o ho
     have hi : i < 11 := (Array.getElem?_eq_some_iff.1 ho).1
     have hi' : i = 0 ∨ i = 1 ∨ i = 2 ∨ i = 3 ∨ i = 4 ∨ i = 5 ∨ i = 6 ∨ i = 7 ∨ i = 8 ∨ i = 9 ∨ i = 10 := by omega
     clear hi
     rcases hi' with rfl | rfl | rfl | rfl | rfl | rfl | rfl | rfl | rfl | rfl | rfl
     all_goals (simp only [List.getElem?_toArray, List.getElem?_cons_zero, List.getElem?_cons_succ, Option.some.injEq] at ho; subst ho; intro listed f a wz hJ hsz hls hun hdep hout hlat; first | (rw [if_pos (by rfl)]; intro K hK) | skip)
     ·have q0 := hout 0 (outB_spec (by kernel_rfl))
      rw [Array.getD_eq_getD_getElem?] at q0
      clear hsz hdep hout hlat
      go_simp
      exact hK _ _ (hJ.next (by rw [hls]; decide) (by rw [hT]; first | rfl | exact int_eq (by omega) | exact int_eq (by rw [IntKind.wrap_i64]; omega)) (S11.plain hJ.st 0 (by decide)) (no_head (by decide)))
     ·have q0 := hout 0 (outB_spec (by kernel_rfl))
      rw [Array.getD_eq_getD_getElem?] at q0
      clear hsz hdep hout hlat
      go_simp
      exact hK _ _ (hJ.next (by rw [hls]; decide) (by rw [hT]; first | rfl | exact int_eq (by omega) | exact int_eq (by rw [IntKind.wrap_i64]; omega)) (S11.plain hJ.st 1 (by decide)) (no_head (by decide)))
     ·have q58 := hJ.iq hT (hdep ⟨1, .data⟩ (by simp) rfl) rfl _ rfl _ rfl
      clear hsz hdep hout hlat
      go_simp
      exact hK _ _ (hJ.next (by rw [hls]; decide) (by rw [hT]; first | rfl | exact int_eq (by omega) | exact int_eq (by rw [IntKind.wrap_i64]; omega)) (S11.plain hJ.st 2 (by decide)) (no_head (by decide)))
     ·have q59 := hJ.iq hT (hdep ⟨2, .data⟩ (by simp) rfl) rfl _ rfl _ rfl
      clear hsz hdep hout hlat
      go_simp
      exact hK _ _ (hJ.next (by rw [hls]; decide) (by rw [hT]; first | rfl | exact int_eq (by omega) | exact int_eq (by rw [IntKind.wrap_i64]; omega)) (S11.plain hJ.st 3 (by decide)) (no_head (by decide)))
     ·have q60 := hJ.iq hT (hdep ⟨3, .data⟩ (by simp) rfl) rfl _ rfl _ rfl
      have hl7 : listed.getD 7 false = false := by
       cases hc : listed.getD 7 false with
       | false => rfl
       | true =>
        have hc1 := hJ.ord (7, 4) (by simp) hc
        exact absurd hc1 (by rw [hun]; decide)
      have cc : wz.cell? ⟨P, 0, none⟩ = some (.slice ad5 xs.length cap5) := by rw [(F1.out.blk.ext (S11.pre hJ.st hl7)).cell]; rfl
      clear hsz hdep hout hlat
      go_simp
      exact hK _ _ (hJ.next (by rw [hls]; decide) (by rw [hT]; rfl) (S11.plain hJ.st 4 (by decide)) (no_head (by decide)))
     ·have q8 := hout 8 (outB_spec (by kernel_rfl))
      have hl7 : listed.getD 7 false = false := by
       cases hc : listed.getD 7 false with
       | false => rfl
       | true =>
        have hc1 := hJ.ord (7, 6) (by simp) hc
        have hc2 := hJ.ord (6, 5) (by simp) hc1
        exact absurd hc2 (by rw [hun]; decide)
      exact ld_v _ g8 v' rfl q8 (g8V.out.ext (S11.pre hJ.st hl7)) (hK _ _ (hJ.next (by rw [hls]; decide) (by rw [hT]; rfl) (S11.plain hJ.st 5 (by decide)) (no_head (by decide))))
     ·have q62 := hJ.is hT (hdep ⟨5, .data⟩ (by simp) rfl) rfl _ rfl _ rfl
      have hl5 := (hdep ⟨5, .data⟩ (by simp) rfl).1
      have hord : ∀ x ∈ ([(7, 4), (7, 6), (6, 5), (10, 7)] : List (Nat × Nat)), x.1 = 6 → listed.getD x.2 false = true := (by intro x hx he; simp only [List.mem_cons, List.not_mem_nil, or_false] at hx; rcases hx with rfl | rfl | rfl | rfl; all_goals first | (exact absurd he (by decide)) | assumption)
      have hl7 : listed.getD 7 false = false := by
       cases hc : listed.getD 7 false with
       | false => rfl
       | true =>
        have hc1 := hJ.ord (7, 6) (by simp) hc
        exact absurd hc1 (by rw [hun]; decide)
      have hl10 : listed.getD 10 false = false := by
       cases hc : listed.getD 10 false with
       | false => rfl
       | true =>
        have hc1 := hJ.ord (10, 7) (by simp) hc
        have hc2 := hJ.ord (7, 6) (by simp) hc1
        exact absurd hc2 (by rw [hun]; decide)
      exact wp_bsv _ v' HVO.out rfl q62 (hK _ _ (hJ.next (by rw [hls]; decide) (by rw [hT]; trivial) (S11.s6 hJ.st hl7 hl10) hord))
     ·have q61 := hJ.is hT (hdep ⟨4, .data⟩ (by simp) rfl) rfl _ rfl _ rfl
      have dd63 := hdep ⟨6, .data⟩ (by simp) rfl
      have q63 := dd63.2 _ rfl _ rfl
      have hl4 := (hdep ⟨4, .data⟩ (by simp) rfl).1
      have hl6 := (hdep ⟨6, .data⟩ (by simp) rfl).1
      have hord : ∀ x ∈ ([(7, 4), (7, 6), (6, 5), (10, 7)] : List (Nat × Nat)), x.1 = 7 → listed.getD x.2 false = true := (by intro x hx he; simp only [List.mem_cons, List.not_mem_nil, or_false] at hx; rcases hx with rfl | rfl | rfl | rfl; all_goals first | (exact absurd he (by decide)) | assumption)
      have hl10 : listed.getD 10 false = false := by
       cases hc : listed.getD 10 false with
       | false => rfl
       | true =>
        have hc1 := hJ.ord (10, 7) (by simp) hc
        exact absurd hc1 (by rw [hun]; decide)
      have hl6 := (hdep ⟨6, .data⟩ (by simp) rfl).1
      obtain ⟨g6, e6, hb6⟩ := S11.e6 hJ.st hl6 hun
      rw [e6] at q63
      have xx : Ex w10 wz := S11.pre hJ.st hun
      have F2 := F1.out.ext xx hPlt h0sz
      obtain ⟨adx, ex, nx, rx⟩ := Many.rd (n := 1) (sz := 42) ⟨g6, rfl, hb6⟩ (Vt.len HVO.out)
      cases ex
      refine wp_rd _ _ 37 36 zeroVt.V 42 96 rfl Try.underlying37 Try.infoVt rfl (by decide) w.heap.size xs.length _ _ q61 F2.row F2.md.size _ 1 1 _ q63 rx (Nat.le_refl _) (fun h => by cases h) (Vt.C_one v') (by have := HL.out; omega) (by have := HL.out; omega) (fun v7 w7' r1 r2 => ?_)
      have hr : w7'.ownsRow w.heap.size 36 42 v7 (xs ++ [v']).length ((xs ++ [v']).flatMap Vt.C) := by rw [List.length_append, List.flatMap_append]; simpa using r1
      have hxx : ∀ x ∈ xs ++ [v'], PX w0 w7' x := fun x hx => by
       rcases List.mem_append.1 hx with h | h
       ·exact (F2.ins x h).kt (r2.less h0sz) (by decide)
       rw [List.mem_singleton.1 h]; exact (show PX w0 wz v' from ⟨PXV.out.ok, PXV.out.sec.ext (by have := F1.out.md.size; omega) xx, PXV.out.len⟩).kt (r2.less h0sz) (by decide)
      exact hK _ _ (hJ.next (by rw [hls]; decide) (by rw [hT]; trivial) (S11.s7 hJ.st (by rw [hls]; decide) hl10 hr hxx ⟨r2.bk F2.blk (by decide), ⟨F2.rb.1, r2.bk F2.rb.2 (by decide)⟩, F2.rs.kt r2 (by decide), ⟨F2.r0.1, r2.bk F2.r0.2 (by decide)⟩, F2.md.then r2.below hPlt⟩) hord)
     ·have q57 := hJ.iq hT (hdep ⟨0, .data⟩ (by simp) rfl) rfl _ rfl _ rfl
      clear hsz hdep hout hlat
      go_simp
      exact hK _ _ (hJ.next (by rw [hls]; decide) (by rw [hT]; first | rfl | exact int_eq (by omega) | exact int_eq (by rw [IntKind.wrap_i64]; omega)) (S11.plain hJ.st 8 (by decide)) (no_head (by decide)))
     ·have q65 := hJ.iq hT (hdep ⟨8, .data⟩ (by simp) rfl) rfl _ rfl _ rfl
      clear hsz hdep hout hlat
      go_simp
      exact hK _ _ (hJ.next (by rw [hls]; decide) (by rw [hT]; first | rfl | exact int_eq (by omega) | exact int_eq (by rw [IntKind.wrap_i64]; omega)) (S11.plain hJ.st 9 (by decide)) (no_head (by decide)))
     have q66 := hJ.is hT (hdep ⟨9, .data⟩ (by simp) rfl) rfl _ rfl _ rfl
     have dd64 := hdep ⟨7, .data⟩ (by simp) rfl
     have q64 := dd64.2 _ rfl _ rfl
     have hl7 := (hdep ⟨7, .data⟩ (by simp) rfl).1
     have hord : ∀ x ∈ ([(7, 4), (7, 6), (6, 5), (10, 7)] : List (Nat × Nat)), x.1 = 10 → listed.getD x.2 false = true := (by intro x hx he; simp only [List.mem_cons, List.not_mem_nil, or_false] at hx; rcases hx with rfl | rfl | rfl | rfl; all_goals first | (exact absurd he (by decide)) | assumption)
     have hl7 := (hdep ⟨7, .data⟩ (by simp) rfl).1
     obtain ⟨hr, hxx, hf⟩ := S11.e7 hJ.st hl7 hun
     exact wp_st1 (C := [_]) _ _ P 0 (f 7) rfl q66 q64 hf.blk (by simp) (by kernel_rfl) (own_sl hr).1 (fun wst hd ho => hK _ _ (hJ.next (by rw [hls]; decide) (by rw [hT]; trivial) (S11.s10 (by rw [hls]; decide) hl7 ⟨_, hf.st HLO.out hd ho hr hxx⟩) hord))
    intro listed f wz hall hJ
    have hst := hJ.st
    simp only [putAll, Act.put, List.setIfInBounds_toArray, List.set_cons_zero, List.set_cons_succ, Nat.zero_add, Nat.reduceAdd]
    obtain ⟨rvf, hff⟩ := S11.fin hst (hall 10 (by simp))
    have FF := Lib.hid hff
    clear hst hff
    clear hJ hall hT
    clear hS0 F1
    obtain ⟨wf, hwf⟩ : ∃ x, x = wz := ⟨_, rfl⟩
    rw [← hwf] at FF ⊢
    clear hwf
    go_wp2_with ((with_reducible refine so0 ?_ ?_); (focus rfl))
    (with_reducible refine at9 ?_ ?_); (focus go_simp); refine fun K0 hK => ld_r _ (g8 + 1) r' rfl rfl FF.out.rb (hK _ _ ?_)
    clear hK
    go_wp2_with ((with_reducible refine so0 ?_ ?_); (focus rfl))
    (with_reducible refine at9 ?_ ?_); (focus go_simp); refine fun K0 hK => st_r _ _ (B + 1) r' rfl rfl rfl HRO.out FF.out.r0.2 (by rw [List.size_toArray, Rt.len FF.out.r0.1]) (fun wz hd ho => hK _ _ ?_)
    clear hK
    have hkt : Kt [83] w0.heap.size wf wz := Kt.md ho.md (by have := HLO.out; have := HB.out; omega) FF.out.r0.2 (List.mem_singleton.2 rfl)
    have HPZ := Lib.hid ((FF.out.pb HLO.out h0sz).kt hkt (by decide) (by decide) (by decide))
    have HPN := Lib.hid (show PN wz w.heap.size r'.sec from PN.onlyT FF.out.rs ho FF.out.r0.2 (by decide))
    have MZ := Lib.hid (FF.out.md.then (ho.below w.heap.size (by rw [← HB.out]; omega) wf (Below.refl _ _)) hPlt)
    have FRE := Lib.hid (fun g hg => (FF.out.row.lt g hg).1)
    have HD := Lib.hid hd
    clear hd ho hkt
    go_wp2_with fail
    exact bodyPost_ret (res_r rfl _ _ (B + 1) rfl r' HD.out) rfl ⟨r', rvf, (xs ++ [v']), rfl, HD.out.1, HPN.out, HPZ.out, Or.inr ⟨HRQ.out.symm, x, _, HGP.out, KPT.out, Or.inr (Or.inr ⟨DC3.out.symm, DC2.out, v', DC1.out, Or.inl ⟨by decide, Nat.lt_of_not_le hc, rfl⟩⟩)⟩, MZ.out, Or.inr FRE.out⟩
   subst hkj
   have q2 : ¬ (j : Int) < 0 := by omega
   have hjl := (List.getElem?_eq_some_iff.1 hxj).1
   have q3 : (0 : Int) ≤ (j : Int) := by omega
   have q4 : (j : Int) < (xs.length : Int) := by omega
   replace c0 : (w7.alloc (.cells #[] 36)).cell? ⟨P, 0, none⟩ = some (.slice ad xs.length cap) := by rw [(PBX.out.ext (Ex.alloc w7 _)).blk.cell, ← ERV.out]; rfl
   go_wp2_with (first | ((with_reducible refine so2 [1000+37] ?_ ?_); (focus rfl)) | (with_reducible refine stop_app ?_))
   (with_reducible refine ⟨?_⟩)
   change wpList _ _ _ _ _ (w7.alloc (.cells #[] 36))
   have xa : Ex w7 (w7.alloc (.cells #[] 36)) := Ex.alloc w7 _
   have EM : Hid (Emp w.heap.size (w7.alloc (.cells #[] 36)) 36 (.slice (some ⟨w7.heap.size, 0, none⟩) 0 0)) := Lib.hid ⟨_, rfl, Below.size BW.out, Bk.new rfl _ _⟩
   replace RX := Lib.hid (And.intro RX.out.1 (And.intro RX.out.2.1 (RX.out.2.2.ext xa)))
   replace g8V := Lib.hid (g8V.out.ext xa)
   replace g8R := Lib.hid (g8R.out.ext xa)
   replace HRS := Lib.hid (HRS.out.ext xa)
   replace PBX := Lib.hid (PBX.out.ext xa)
   replace PXV : Hid (PX w0 (w7.alloc (.cells #[] 36)) v') := Lib.hid ⟨PXV.out.ok, PXV.out.sec.ext (Nat.le_trans HP.out.sz (Below.size BW.out)) xa, PXV.out.len⟩
   replace Q0 := Lib.hid (Q0.out.ext xa)
   replace R0 := Lib.hid (R0.out.ext xa)
   replace BW := Lib.hid (Ex.trans BW.out xa)
   clear xa
   generalize hw8 : (w7.alloc (.cells #[] 36)) = w8 at *
   obtain ⟨ge, hge⟩ : ∃ g, g = w7.heap.size := ⟨_, rfl⟩
   rw [← hge] at EM ⊢
   clear hw8 c0 hge
   (with_reducible refine at_any ?_ ?_); (focus go_simp); refine fun K0 hK => wp_rd0 _ _ 37 36 zeroVt.V 42 96 rfl Try.underlying37 Try.infoVt rfl (by decide) w.heap.size _ rfl EM.out (Below.size BW.out) ad xs.length cap (xs.flatMap Vt.C) rfl RX.out.2.2 RX.out.2.1 RX.out.1 (vflat_one xs) (by have := HL.out; omega) (by have := HL.out; omega) (fun v5 w9 r1 x9 => hK _ _ ?_)
   clear hK
   have RW := Lib.hid r1
   replace g8V := Lib.hid (g8V.out.ext x9)
   replace g8R := Lib.hid (g8R.out.ext x9)
   replace HRS := Lib.hid (HRS.out.ext x9)
   replace PXV : Hid (PX w0 w9 v') := Lib.hid ⟨PXV.out.ok, PXV.out.sec.ext (Nat.le_trans HP.out.sz (Below.size BW.out)) x9, PXV.out.len⟩
   replace PBX := Lib.hid (PBX.out.ext x9)
   clear r1 EM RX
   replace Q0 := Lib.hid (Q0.out.ext x9)
   replace R0 := Lib.hid (R0.out.ext x9)
   replace BW := Lib.hid (Ex.trans BW.out x9)
   clear x9
   go_wp2_with (first | ((with_reducible refine so2 [1000+37] ?_ ?_); (focus rfl)) | (with_reducible refine stop_app ?_))
   (with_reducible refine at9 ?_ ?_); (focus go_simp); refine fun K0 hK => wp_st1 (C := [rv]) _ _ P 0 v5 rfl rfl rfl PBX.out.blk (by simp) (by kernel_rfl) (own_sl RW.out).1 (fun w10 hd ho => hK _ _ ?_)
   clear hK
   skip
   have kt9 : Kt [134] w0.heap.size w9 w10 := Kt.md ho.md HLO.out PBX.out.blk (List.mem_singleton.2 rfl)
   have F1 : Hid (F12 w0 w P (B + 1) (g8 + 1) r' v5 xs w10) := Lib.hid ⟨hd, kt9.row RW.out (by decide), fun x hx => by
    obtain ⟨i, hi, e⟩ := List.getElem_of_mem hx
    exact (PBX.out.ins i x (by rw [List.getElem?_eq_getElem hi, e])).kt kt9 (by decide), ⟨g8R.out.1, kt9.bk g8R.out.2 (by decide)⟩, HRS.out.kt kt9 (by decide), ⟨R0.out.1, kt9.bk R0.out.2 (by decide)⟩, (Ex.md BW.out (Nat.le_of_lt hPlt)).trans ho.md⟩
   replace g8V : Hid (VB w10 g8 v') := Lib.hid ⟨g8V.out.1, kt9.bk g8V.out.2 (by decide)⟩
   replace PXV := Lib.hid (PXV.out.kt kt9 (by decide))
   obtain ⟨ad5, cap5, e5⟩ := (own_sl RW.out).2
   subst e5
   have c1 : w10.cell? ⟨P, 0, none⟩ = some (.slice ad5 xs.length cap5) := by rw [F1.out.blk.cell]; rfl
   clear hd ho kt9 PBX RW R0 g8R HRS BW Q0
   go_wp2_with fail
   obtain ⟨gr, capr, C, er, hbr, hlr, hsetr⟩ := F1.out.set hPlt h0sz j hjl
   cases er
   have HSR := Lib.hid hsetr
   have HBR := Lib.hid hbr
   clear hsetr hbr
   have F12s : Hid (∀ wz, Ex w10 wz → ∀ wst, Bk wst gr 36 (C.take (j * 42) ++ v'.C ++ C.drop (j * 42 + v'.C.length)).toArray → Only gr wz wst → F12 w0 w P (B + 1) (g8 + 1) r' (.slice (some ⟨gr, 0, none⟩) xs.length cap5) (xs.set j v') wst) := Lib.hid (fun wz xx wst hd ho => by
    obtain ⟨g2, cap2, C2, e2, hb2, hl2, hs2⟩ := (F1.out.ext xx hPlt h0sz).set hPlt h0sz j hjl
    cases e2
    have hC : C2 = C := by
     have h1 := HBR.out.ext xx
     unfold Bk at h1 hb2
     rw [h1] at hb2
     have h3 := (Obj.cells.inj (Option.some.inj hb2)).1
     simpa using h3.symm
    subst hC
    exact hs2 v' (by have := F1.out.md.size; exact ⟨PXV.out.ok, PXV.out.sec.ext (by omega) xx, PXV.out.len⟩) wst hd ho)
   have hS0 : ∀ (listed : Array Bool) (_ : Nat → Value), (∀ i, listed.getD i false = false) → St12 w0 w w10 P (B + 1) (g8 + 1) r' (.slice (some ⟨gr, 0, none⟩) xs.length cap5) (xs.set j v') (listed.getD 7 false) w10.drew := fun listed _ h0 => by rw [h0 7]; exact ⟨fun _ => (Below.refl w10.heap.size w10).drew, fun e => by cases e⟩
   obtain ⟨T, hT⟩ : ∃ T : List (Value → Prop), T = [(fun zz => zz = .pointer (some ⟨P, 0, none⟩)), (fun zz => zz = .pointer (some ⟨P, 0, none⟩)), (fun zz => zz = .pointer (some ⟨P, 0, none⟩)), (fun zz => zz = .slice (some ⟨gr, 0, none⟩) xs.length cap5), (fun zz => zz = .int .i64 j), (fun zz => zz = v'.V), (fun zz => zz = .pointer (some ⟨gr, j * 42, none⟩)), (fun _ => True)] := ⟨_, rfl⟩
   refine wp_region_gen (JS T ([(7, 6), (7, 5), (6, 3)] : List (Nat × Nat)) (fun l _ wq => St12 w0 w w10 P (B + 1) (g8 + 1) r' (.slice (some ⟨gr, 0, none⟩) xs.length cap5) (xs.set j v') (l.getD 7 false) wq)) (by kernel_rfl) (by kernel_rfl) (by kernel_rfl) (fitB_spec (by kernel_rfl)) (fun listed f h => JS.start listed f h (hS0 listed f h)) ?_ ?_
   ·intro i o ho
    have hi : i < 8 := (Array.getElem?_eq_some_iff.1 ho).1
    have hi' : i = 0 ∨ i = 1 ∨ i = 2 ∨ i = 3 ∨ i = 4 ∨ i = 5 ∨ i = 6 ∨ i = 7 := by omega
    clear hi
    rcases hi' with rfl | rfl | rfl | rfl | rfl | rfl | rfl | rfl
    all_goals (simp only [List.getElem?_toArray, List.getElem?_cons_zero, List.getElem?_cons_succ, Option.some.injEq] at ho; subst ho; intro listed f a wz hJ hsz hls hun hdep hout hlat; first | (rw [if_pos (by rfl)]; intro K hK) | skip)
    ·have q0 := hout 0 (outB_spec (by kernel_rfl))
     rw [Array.getD_eq_getD_getElem?] at q0
     clear hsz hdep hout hlat
     go_simp
     exact hK _ _ (hJ.next (by rw [hls]; decide) (by rw [hT]; first | rfl | exact int_eq (by omega) | exact int_eq (by rw [IntKind.wrap_i64]; omega)) (by show St12 w0 w w10 P (B + 1) (g8 + 1) r' (.slice (some ⟨gr, 0, none⟩) xs.length cap5) (xs.set j v') ((listed.setIfInBounds 0 true).getD 7 false) _; rw [gset (by decide) false]; exact hJ.st) (no_head (by decide)))
    ·have q67 := hJ.iq hT (hdep ⟨0, .data⟩ (by simp) rfl) rfl _ rfl _ rfl
     clear hsz hdep hout hlat
     go_simp
     exact hK _ _ (hJ.next (by rw [hls]; decide) (by rw [hT]; first | rfl | exact int_eq (by omega) | exact int_eq (by rw [IntKind.wrap_i64]; omega)) (by show St12 w0 w w10 P (B + 1) (g8 + 1) r' (.slice (some ⟨gr, 0, none⟩) xs.length cap5) (xs.set j v') ((listed.setIfInBounds 1 true).getD 7 false) _; rw [gset (by decide) false]; exact hJ.st) (no_head (by decide)))
    ·have q68 := hJ.iq hT (hdep ⟨1, .data⟩ (by simp) rfl) rfl _ rfl _ rfl
     clear hsz hdep hout hlat
     go_simp
     exact hK _ _ (hJ.next (by rw [hls]; decide) (by rw [hT]; first | rfl | exact int_eq (by omega) | exact int_eq (by rw [IntKind.wrap_i64]; omega)) (by show St12 w0 w w10 P (B + 1) (g8 + 1) r' (.slice (some ⟨gr, 0, none⟩) xs.length cap5) (xs.set j v') ((listed.setIfInBounds 2 true).getD 7 false) _; rw [gset (by decide) false]; exact hJ.st) (no_head (by decide)))
    ·have q69 := hJ.iq hT (hdep ⟨2, .data⟩ (by simp) rfl) rfl _ rfl _ rfl
     have hl7 : listed.getD 7 false = false := by
      cases hc : listed.getD 7 false with
      | false => rfl
      | true =>
       have hc1 := hJ.ord (7, 6) (by simp) hc
       have hc2 := hJ.ord (6, 3) (by simp) hc1
       exact absurd hc2 (by rw [hun]; decide)
     have cc : wz.cell? ⟨P, 0, none⟩ = some (.slice (some ⟨gr, 0, none⟩) xs.length cap5) := by rw [(F1.out.blk.ext ((hJ.st).1 hl7)).cell]; rfl
     clear hsz hdep hout hlat
     go_simp
     exact hK _ _ (hJ.next (by rw [hls]; decide) (by rw [hT]; rfl) (by show St12 w0 w w10 P (B + 1) (g8 + 1) r' (.slice (some ⟨gr, 0, none⟩) xs.length cap5) (xs.set j v') ((listed.setIfInBounds 3 true).getD 7 false) _; rw [gset (by decide) false]; exact hJ.st) (no_head (by decide)))
    ·have q6 := hout 6 (outB_spec (by kernel_rfl))
     rw [Array.getD_eq_getD_getElem?] at q6
     clear hsz hdep hout hlat
     go_simp
     exact hK _ _ (hJ.next (by rw [hls]; decide) (by rw [hT]; first | rfl | exact int_eq (by omega) | exact int_eq (by rw [IntKind.wrap_i64]; omega)) (by show St12 w0 w w10 P (B + 1) (g8 + 1) r' (.slice (some ⟨gr, 0, none⟩) xs.length cap5) (xs.set j v') ((listed.setIfInBounds 4 true).getD 7 false) _; rw [gset (by decide) false]; exact hJ.st) (no_head (by decide)))
    ·have q8 := hout 8 (outB_spec (by kernel_rfl))
     have hl7 : listed.getD 7 false = false := by
      cases hc : listed.getD 7 false with
      | false => rfl
      | true =>
       have hc1 := hJ.ord (7, 5) (by simp) hc
       exact absurd hc1 (by rw [hun]; decide)
     exact ld_v _ g8 v' rfl q8 (g8V.out.ext ((hJ.st).1 hl7)) (hK _ _ (hJ.next (by rw [hls]; decide) (by rw [hT]; rfl) (by show St12 w0 w w10 P (B + 1) (g8 + 1) r' (.slice (some ⟨gr, 0, none⟩) xs.length cap5) (xs.set j v') ((listed.setIfInBounds 5 true).getD 7 false) _; rw [gset (by decide) false]; exact hJ.st) (no_head (by decide))))
    ·have q70 := hJ.iq hT (hdep ⟨3, .data⟩ (by simp) rfl) rfl _ rfl _ rfl
     have q71 := hJ.iq hT (hdep ⟨4, .data⟩ (by simp) rfl) rfl _ rfl _ rfl
     have hl3 := (hdep ⟨3, .data⟩ (by simp) rfl).1
     have hord : ∀ x ∈ ([(7, 6), (7, 5), (6, 3)] : List (Nat × Nat)), x.1 = 6 → listed.getD x.2 false = true := (by intro x hx he; simp only [List.mem_cons, List.not_mem_nil, or_false] at hx; rcases hx with rfl | rfl | rfl; all_goals first | (exact absurd he (by decide)) | assumption)
     clear hsz hdep hout hlat
     go_simp
     exact hK _ _ (hJ.next (by rw [hls]; decide) (by rw [hT]; first | rfl | (simp; done)) (by show St12 w0 w w10 P (B + 1) (g8 + 1) r' (.slice (some ⟨gr, 0, none⟩) xs.length cap5) (xs.set j v') ((listed.setIfInBounds 6 true).getD 7 false) _; rw [gset (by decide) false]; exact hJ.st) hord)
    have q73 := hJ.is hT (hdep ⟨6, .data⟩ (by simp) rfl) rfl _ rfl _ rfl
    have q72 := hJ.is hT (hdep ⟨5, .data⟩ (by simp) rfl) rfl _ rfl _ rfl
    have hl6 := (hdep ⟨6, .data⟩ (by simp) rfl).1
    have hl5 := (hdep ⟨5, .data⟩ (by simp) rfl).1
    have hord : ∀ x ∈ ([(7, 6), (7, 5), (6, 3)] : List (Nat × Nat)), x.1 = 7 → listed.getD x.2 false = true := (by intro x hx he; simp only [List.mem_cons, List.not_mem_nil, or_false] at hx; rcases hx with rfl | rfl | rfl; all_goals first | (exact absurd he (by decide)) | assumption)
    have xx : Ex w10 wz := (hJ.st).1 hun
    exact wp_stp v'.C _ _ gr (j * 42) rfl q73 q72 (HBR.out.ext xx) (by rw [Vt.len HVO.out]; exact hlr) (by rw [Try.sizeVt, Vt.len HVO.out]) v'.ones (fun wst hd ho => hK _ _ (hJ.next (by rw [hls]; decide) (by rw [hT]; trivial) (by show St12 w0 w w10 P (B + 1) (g8 + 1) r' (.slice (some ⟨gr, 0, none⟩) xs.length cap5) (xs.set j v') ((listed.setIfInBounds 7 true).getD 7 false) _; rw [set_new (by rw [hls]; decide)]; exact ⟨(fun e => by cases e), fun _ => (F12s.out wz xx wst hd ho)⟩) hord))
   intro listed f wz hall hJ
   have hst := hJ.st
   simp only [putAll, Act.put, List.setIfInBounds_toArray, List.set_cons_zero, List.set_cons_succ, Nat.zero_add, Nat.reduceAdd]
   have hst : St12 w0 w w10 P (B + 1) (g8 + 1) r' (.slice (some ⟨gr, 0, none⟩) xs.length cap5) (xs.set j v') (listed.getD 7 false) wz := hst
   have FF := Lib.hid (hst.2 (hall 7 (by simp)))
   clear hst
   clear hJ hall hT
   clear hS0 F12s F1 HSR HBR
   obtain ⟨wf, hwf⟩ : ∃ x, x = wz := ⟨_, rfl⟩
   rw [← hwf] at FF ⊢
   obtain ⟨rvf, hrvf⟩ : ∃ x : Value, x = .slice (some ⟨gr, 0, none⟩) xs.length cap5 := ⟨_, rfl⟩
   rw [← hrvf] at FF
   clear hwf hrvf
   go_wp2_with ((with_reducible refine so0 ?_ ?_); (focus rfl))
   (with_reducible refine at9 ?_ ?_); (focus go_simp); refine fun K0 hK => ld_r _ (g8 + 1) r' rfl rfl FF.out.rb (hK _ _ ?_)
   clear hK
   go_wp2_with ((with_reducible refine so0 ?_ ?_); (focus rfl))
   (with_reducible refine at9 ?_ ?_); (focus go_simp); refine fun K0 hK => st_r _ _ (B + 1) r' rfl rfl rfl HRO.out FF.out.r0.2 (by rw [List.size_toArray, Rt.len FF.out.r0.1]) (fun wz hd ho => hK _ _ ?_)
   clear hK
   have hkt : Kt [83] w0.heap.size wf wz := Kt.md ho.md (by have := HLO.out; have := HB.out; omega) FF.out.r0.2 (List.mem_singleton.2 rfl)
   have HPZ := Lib.hid ((FF.out.pb HLO.out h0sz).kt hkt (by decide) (by decide) (by decide))
   have HPN := Lib.hid (show PN wz w.heap.size r'.sec from PN.onlyT FF.out.rs ho FF.out.r0.2 (by decide))
   have MZ := Lib.hid (FF.out.md.then (ho.below w.heap.size (by rw [← HB.out]; omega) wf (Below.refl _ _)) hPlt)
   have FRE := Lib.hid (fun g hg => (FF.out.row.lt g hg).1)
   have HD := Lib.hid hd
   clear hd ho hkt
   go_wp2_with fail
   exact bodyPost_ret (res_r rfl _ _ (B + 1) rfl r' HD.out) rfl ⟨r', rvf, (xs.set j v'), rfl, HD.out.1, HPN.out, HPZ.out, Or.inr ⟨HRQ.out.symm, x, _, HGP.out, KPT.out, Or.inr (Or.inr ⟨DC3.out.symm, DC2.out, v', DC1.out, Or.inr ⟨j, rfl, hjl, rfl⟩⟩)⟩, MZ.out, Or.inr FRE.out⟩
end Go.Proofs.Ytmjfnpmnhehnkaa
