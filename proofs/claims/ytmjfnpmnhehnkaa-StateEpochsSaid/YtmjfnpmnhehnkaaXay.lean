/- Sp -/
import Derived.Test.YtmjfnpmnhehnkaaXax
namespace Go.Proofs.Ytmjfnpmnhehnkaa
open Go.RowKit
theorem SS.Mne {w : World} {B M s : Nat} {m n : Int} {p : Nat → Pa} {D : Nat → Nat} {r : Nat → Value} {v : Nat → List Vt} (h : SS w B M m n p D r v) (hs : s < 16) : M ≠ D s := fun e9 => by
 have h1 := h.blk; have h2 := (h.ts.tb s hs).blk
 rw [e9] at h1; unfold Bk at h1 h2; rw [h1] at h2; exact absurd (Obj.cells.inj (Option.some.inj h2)).2.1 (by decide)
theorem fill_ss {w w' : World} {B M s : Nat} {m n : Int} {p : Nat → Pa} {D : Nat → Nat} {r : Nat → Value} {v : Nat → List Vt} {xs : List Vt} {e : Ending} (h : SS w B M m n p D r v) (hs : s < 16) (hp : FillPost2 (D s) (r s) (v s) xs w e w') (hr : Rising xs) : ∃ rv' ys, e = .returned (.int .i64 0) ∧ ys.map Vt.ct = xs.map Vt.ct ∧ SS w' B M m n p D (updF r s rv') (updF v s ys) ∧ Md (D s) w w' ∧ (∀ g, rv'.ownBlock = some g → w.heap.size ≤ g) := by
 obtain ⟨⟨_, rfl, rv', ys, h1, h2, h3, _⟩ | ⟨h1, _⟩, hm⟩ := hp
 ·exact ⟨rv', ys, rfl, h2, ⟨hm.bk h.blk (h.Mne hs), h.ts.fill hs h1 hm h3, h.ok, h.mok⟩, hm, h3⟩
 exact absurd hr h1
/-- two blocks alone are others -/
def Md2 (a b : Nat) (w w' : World) : Prop := ∃ wm, Md a w wm ∧ Md b wm w'
/-- a drawn region with one turning operation (it) whose value is assigned (ia) -/
structure SQ (it ia : Nat) (w0 : World) (Fin : Value → World → Prop) (l : Array Bool) (f : Nat → Value) (w : World) : Prop where
 ex : l.getD it false = false → Ex w0 w
 fin : l.getD it false = true → ∃ wp, Fin (f it) wp ∧ Ex wp w
 val : l.getD ia false = true → f ia = f it
section
variable {it ia : Nat} {w0 w w' : World} {Fin : Value → World → Prop} {l : Array Bool} {f : Nat → Value} {x : Value}
theorem SQ.start (h0 : ∀ i, l.getD i false = false) (hx : Ex w0 w) : SQ it ia w0 Fin l f w := ⟨fun _ => hx, (fun a => by rw [h0] at a; cases a), (fun a => by rw [h0] at a; cases a)⟩
theorem SQ.plain (h : SQ it ia w0 Fin l f w) (kx : Ex w w') (i : Nat) (hi : i ≠ it ∧ i ≠ ia) : SQ it ia w0 Fin (l.setIfInBounds i true) (upd f i x) w' := by
 refine ⟨fun a => ?_, fun a => ?_, fun a => ?_⟩
 ·rw [gset hi.1 false] at a; exact Ex.trans (h.ex a) kx
 ·rw [gset hi.1 false] at a; rw [upd_ne _ _ (Ne.symm hi.1)]
  obtain ⟨wp, h1, h2⟩ := h.fin a
  exact ⟨wp, h1, Ex.trans h2 kx⟩
 rw [gset hi.2 false] at a; rw [upd_ne _ _ (Ne.symm hi.1), upd_ne _ _ (Ne.symm hi.2)]; exact h.val a
theorem SQ.turn (hl : it < l.size) (hne : it ≠ ia) (ha : l.getD ia false = false) (hf : Fin x w') : SQ it ia w0 Fin (l.setIfInBounds it true) (upd f it x) w' := by
 refine ⟨fun a => ?_, fun _ => ?_, fun a => ?_⟩
 ·rw [set_new hl] at a; cases a
 ·rw [upd_same]; exact ⟨w', hf, Ex.refl _⟩
 rw [gset hne false, ha] at a; cases a
theorem SQ.asg (h : SQ it ia w0 Fin l f w) (hne : it ≠ ia) : SQ it ia w0 Fin (l.setIfInBounds ia true) (upd f ia (f it)) w := by
 refine ⟨fun a => ?_, fun a => ?_, fun _ => ?_⟩
 ·rw [gset (Ne.symm hne) false] at a; exact h.ex a
 ·rw [gset (Ne.symm hne) false] at a; rw [upd_ne _ _ hne]; exact h.fin a
 rw [upd_same, upd_ne _ _ hne]
end
def InF (B9 M : Nat) (m n : Int) (p : Nat → Pa) (D : Nat → Nat) (r : Nat → Value) (v : Nat → List Vt) (s : Nat) (q : Pa) (C : List Vc) (w w' : World) : Prop := ∃ rv' ys, ys.map Vt.ct = C ∧ SS w' B9 M m n (updF p s q) D (updF r s rv') (updF v s ys) ∧ Md2 M (D s) w w' ∧ (∀ g, rv'.ownBlock = some g → w.heap.size ≤ g)
theorem Md2.ext {a b : Nat} {w w1 w' : World} (h : Md2 a b w w1) (k : Ex w1 w') (hb : b ≤ w1.heap.size) : Md2 a b w w' := by
 obtain ⟨wm, h1, h2⟩ := h
 exact ⟨wm, h1, h2.trans (Ex.md k hb)⟩
set_option maxHeartbeats 8000000 in
set_option maxRecDepth 100000 in
theorem apply_in (B9 M : Nat) (m n : Int) (p : Nat → Pa) (D : Nat → Nat) (r : Nat → Value) (v : Nat → List Vt) (x : Rk) (hk : x.kind = 3) (E1 : Int) (hE1 : AllOf x.l (x.shard.toNat : Int) → E1 = inE (p x.shard.toNat) x.ep) (hE2 : ¬ AllOf x.l (x.shard.toNat : Int) → E1 = 1) (w : World) (hx : x.In w) (hmd : ∀ wa wb, Ex w wa → Md M wa wb → Vp.In x.ad x.cap x.l wb ∧ ∀ (i : Nat) (y : Vt), x.l[i]? = some y → VI wb y) (h : SS w B9 M m n p D r v) : Calls Try.prog 17 #[.pointer (some ⟨M, 0, none⟩), x.V] w (AOPost x.inR E1 (InF B9 M m n p D r v x.shard.toNat ⟨1, x.ep, 0⟩ (x.l.map Vt.ct) w) w) := by
 have HE1 := Hi hE1
 have HE2 := Hi hE2
 clear hE1 hE2
 obtain ⟨cs, hcs⟩ : ∃ cs, cs = x.C.toArray := ⟨_, rfl⟩
 have A0 : Hid (KB9 (w.alloc (.cells cs 39)) w.heap.size x) := Hi ⟨hx.v.ok, by rw [hcs]; exact Bk.new rfl _ _⟩
 have B0 : Hid (Ex w (w.alloc (.cells cs 39))) := Hi (Ex.alloc _ _)
 have HS := Hi (h.ext B0.out)
 rw [show (Calls Try.prog 17 #[.pointer (some ⟨M, 0, none⟩), x.V] w) = (Calls Try.prog 17 #[.pointer (some ⟨M, 0, none⟩), .agg cs] w) by rw [hcs]; rfl]
 have HX := Hi hx
 have HML := Hi (Nat.le_of_lt h.blk.lt)
 have HXM := Hi hmd
 clear hcs hx h
 have HK := Hi hk
 go_enter Try.func17, Try.ntmps17
 go_wp2_with (first | ((with_reducible refine so0 ?_ ?_); (focus rfl)) | ((with_reducible refine so4 [112, 1000 + 112, 32, 39] ?_ ?_); (focus rfl)))
 (with_reducible refine ⟨?_⟩)
 change wpList _ _ _ _ _ (w.alloc (.cells cs 39))
 generalize hw1 : w.alloc (.cells cs 39) = w1 at *
 clear hw1
 obtain ⟨B, hB⟩ : ∃ B, B = w.heap.size := ⟨_, rfl⟩
 rw [← hB] at A0 ⊢
 have HB := Hi hB
 clear hB
 (with_reducible refine at_any ?_ ?_); (focus go_simp); refine fun K0 hK => ld_rk _ B x rfl rfl A0.out (hK _ _ ?_)
 clear hK
 go_wp2_with fail
 refine (check_in B9 M m n p D r v x HK.out E1 HE1.out HE2.out w1 (HX.out.ext B0.out) HS.out).mono ?_
 rintro e w2 ⟨E, rfl, he1, he2, x2⟩
 replace A0 := Hi (A0.out.ext x2)
 replace HS := Hi (HS.out.ext x2)
 replace B0 := Hi (Ex.trans B0.out x2)
 have HE := Hi (And.intro he1 he2)
 clear he1 he2 x2
 by_cases hE0 : E = 0
 rotate_left
 ·skip
  go_wp2_with fail
  go_ret
  exact Or.inl ⟨fun h => hE0 ((HE.out.1 h.1).trans h.2), ⟨E, rfl, hE0, HE.out.1, HE.out.2⟩, B0.out⟩
 subst hE0
 have HKR : Hid (x.inR ∧ E1 = 0) := Hi (by
  have hr : x.inR := Classical.byContradiction (fun h => by have := HE.out.2 h; omega)
  exact ⟨hr, (HE.out.1 hr).symm⟩)
 obtain ⟨s, hs⟩ : ∃ s, s = x.shard.toNat := ⟨_, rfl⟩
 have HSH : Hid (x.shard = (s : Int)) := Hi (by have := HKR.out.1.1.1; rw [hs]; omega)
 have hs16 : s < 16 := by have h1 := HKR.out.1.1.1; have h2 := HKR.out.1.1.2.1; rw [hs]; omega
 have q0 : (0 : Int) ≤ (s : Int) := by omega
 have q1 : (s : Int) < 16 := by omega
 have HSN := Hi hs
 clear hs
 have c0 : w2.cell? ⟨B, 0, none⟩ = some (.int .i64 3) := by rw [← HK.out]; exact A0.out.cells.1
 have c1 : w2.cell? ⟨B, 1, none⟩ = some (.int .i64 (s : Int)) := by rw [← HSH.out]; exact A0.out.cells.2.1
 go_wp2_with fail
 clear c0 c1
 have hS0 : ∀ (listed : Array Bool) (f : Nat → Value), (∀ i, listed.getD i false = false) → Ex w2 w2.drew := fun _ _ _ => (Below.refl w2.heap.size w2).drew
 obtain ⟨T, hT⟩ : ∃ T : List (Value → Prop), T = [(fun zz => zz = .pointer (some ⟨M, 0, none⟩)), (fun zz => zz = .pointer (some ⟨B, 1, none⟩)), (fun zz => zz = .int .i64 (s : Int)), (fun zz => zz = .pointer (some ⟨M, 0, none⟩)), (fun zz => zz = .pointer (some ⟨M, 2, none⟩)), (fun zz => zz = .pointer (some ⟨M, 2 + s * 4, none⟩)), (fun zz => zz = .pointer (some ⟨M, 2 + s * 4, none⟩))] := ⟨_, rfl⟩
 refine wp_region_gen (JS T ([] : List (Nat × Nat)) (fun _ _ wq => Ex w2 wq)) (by kernel_rfl) (by kernel_rfl) (by kernel_rfl) (fitB_spec (by kernel_rfl)) (fun listed f h => JS.start listed f h (hS0 listed f h)) ?_ ?_
 ·intro i o ho
  have hi : i < 7 := (Array.getElem?_eq_some_iff.1 ho).1
  have hi' : i = 0 ∨ i = 1 ∨ i = 2 ∨ i = 3 ∨ i = 4 ∨ i = 5 ∨ i = 6 := by omega
  clear hi
  rcases hi' with rfl | rfl | rfl | rfl | rfl | rfl | rfl
  all_goals (simp only [List.getElem?_toArray, List.getElem?_cons_zero, List.getElem?_cons_succ, Option.some.injEq] at ho; subst ho; intro listed f a w3 hJ hsz hls hun hdep hout hlat; first | (rw [if_pos (by rfl)]; intro K hK) | skip)
  ·have q0 := hout 0 (outB_spec (by kernel_rfl))
   refine wp_mv _ rfl (hK _ _ ?_)
   rw [show a.eval (.tmp 0) = .pointer (some ⟨M, 0, none⟩) from q0]
   exact hJ.nx hls hT rfl rfl hJ.st (no_head (by decide))
  ·have q3 := hout 3 (outB_spec (by kernel_rfl))
   rw [Array.getD_eq_getD_getElem?] at q3
   clear hsz hdep hout hlat
   go_simp
   exact hK _ _ (hJ.nx hls hT rfl (by first | rfl | exact congrArg (Value.int .i64) (by omega) | exact congrArg (Value.int .i64) (by rw [IntKind.wrap_i64]; omega) | exact congrArg Value.bool (decide_eq_false (by omega)) | exact congrArg Value.bool (decide_eq_true (by omega)) | exact congrArg (Value.int .u64) (by omega)) hJ.st (no_head (by decide)))
  ·have q14 := hJ.iq hT (hdep ⟨1, .data⟩ (by simp) rfl) rfl _ rfl _ rfl
   have c9 : w3.cell? ⟨B, 1, none⟩ = some (.int .i64 (s : Int)) := by rw [← HSH.out]; exact (A0.out.ext hJ.st).cells.2.1
   clear hsz hdep hout hlat
   go_simp
   exact hK _ _ (hJ.nx hls hT rfl rfl hJ.st (no_head (by decide)))
  ·have q13 := hJ.iq hT (hdep ⟨0, .data⟩ (by simp) rfl) rfl _ rfl _ rfl
   clear hsz hdep hout hlat
   go_simp
   exact hK _ _ (hJ.nx hls hT rfl (by first | rfl | exact congrArg (Value.int .i64) (by omega) | exact congrArg (Value.int .i64) (by rw [IntKind.wrap_i64]; omega) | exact congrArg Value.bool (decide_eq_false (by omega)) | exact congrArg Value.bool (decide_eq_true (by omega)) | exact congrArg (Value.int .u64) (by omega)) hJ.st (no_head (by decide)))
  ·have q16 := hJ.iq hT (hdep ⟨3, .data⟩ (by simp) rfl) rfl _ rfl _ rfl
   clear hsz hdep hout hlat
   go_simp
   exact hK _ _ (hJ.nx hls hT rfl (by first | rfl | exact congrArg (Value.int .i64) (by omega) | exact congrArg (Value.int .i64) (by rw [IntKind.wrap_i64]; omega) | exact congrArg Value.bool (decide_eq_false (by omega)) | exact congrArg Value.bool (decide_eq_true (by omega)) | exact congrArg (Value.int .u64) (by omega)) hJ.st (no_head (by decide)))
  ·have q17 := hJ.iq hT (hdep ⟨4, .data⟩ (by simp) rfl) rfl _ rfl _ rfl
   have q15 := hJ.iq hT (hdep ⟨2, .data⟩ (by simp) rfl) rfl _ rfl _ rfl
   clear hsz hdep hout hlat
   go_simp
   exact hK _ _ (hJ.nx hls hT rfl (by first | rfl | exact congrArg (Value.int .i64) (by omega) | exact congrArg (Value.int .i64) (by rw [IntKind.wrap_i64]; omega) | exact congrArg Value.bool (decide_eq_false (by omega)) | exact congrArg Value.bool (decide_eq_true (by omega)) | exact congrArg (Value.int .u64) (by omega)) hJ.st (no_head (by decide)))
  have q18 := hJ.iq hT (hdep ⟨5, .data⟩ (by simp) rfl) rfl _ rfl _ rfl
  clear hsz hdep hout hlat
  go_simp
  exact hK _ _ (hJ.nx hls hT rfl (by first | rfl | exact congrArg (Value.int .i64) (by omega) | exact congrArg (Value.int .i64) (by rw [IntKind.wrap_i64]; omega) | exact congrArg Value.bool (decide_eq_false (by omega)) | exact congrArg Value.bool (decide_eq_true (by omega)) | exact congrArg (Value.int .u64) (by omega)) hJ.st (no_head (by decide)))
 intro listed f w3 hall hJ
 have f6 : f 6 = .pointer (some ⟨M, 2 + s * 4, none⟩) := by
  have h := hJ.vals 6 (hall 6 (by simp))
  rw [hT] at h; exact h
 have hst := hJ.st
 simp only [putAll, Act.put, List.setIfInBounds_toArray, List.set_cons_zero, List.set_cons_succ, Nat.zero_add, Nat.reduceAdd]
 have x3 : Ex w2 w3 := hst
 replace A0 := Hi (A0.out.ext x3)
 replace HS := Hi (HS.out.ext x3)
 replace B0 := Hi (Ex.trans B0.out x3)
 clear hst hS0 x3
 rw [f6]
 clear f6
 clear hJ hall hT
 have c0 : w3.cell? ⟨B, 0, none⟩ = some (.int .i64 3) := by rw [← HK.out]; exact A0.out.cells.1
 have w39 : Hid (KBM w3 B M x) := Hi ⟨A0.out, fun e => by have h1 := A0.out.2; have h2 := HS.out.blk; rw [e] at h1; unfold Bk at h1 h2; rw [h1] at h2; exact absurd (Obj.cells.inj (Option.some.inj h2)).2.1 (by decide)⟩
 go_wp2_with fail
 clear c0
 have hS0 : ∀ (listed : Array Bool) (f : Nat → Value), (∀ i, listed.getD i false = false) → S3S 7 10 13 w3 M m n p (fun i => some (D i)) s 1 x.ep 0 listed w3.drew := fun _ _ h0 => S3S.start h0 (HS.out.blk.ext (Below.refl w3.heap.size w3).drew) (Ex.md (show Ex w3 w3.drew from (Below.refl w3.heap.size w3).drew) (Nat.le_of_lt HS.out.blk.lt))
 obtain ⟨T, hT⟩ : ∃ T : List (Value → Prop), T = [(fun zz => zz = .pointer (some ⟨M, 2 + s * 4, none⟩)), (fun zz => zz = .pointer (some ⟨M, 2 + s * 4, none⟩)), (fun zz => zz = .pointer (some ⟨M, 2 + s * 4, none⟩)), (fun zz => zz = .pointer (some ⟨B, 3, none⟩)), (fun zz => zz = .int .u64 x.ep), (fun zz => zz = .pointer (some ⟨M, 2 + s * 4, none⟩)), (fun zz => zz = .pointer (some ⟨M, 2 + s * 4, none⟩)), (fun _ => True), (fun zz => zz = .pointer (some ⟨M, 2 + s * 4, none⟩)), (fun zz => zz = .pointer (some ⟨M, 2 + s * 4 + 1, none⟩)), (fun _ => True), (fun zz => zz = .pointer (some ⟨M, 2 + s * 4, none⟩)), (fun zz => zz = .pointer (some ⟨M, 2 + s * 4 + 2, none⟩)), (fun _ => True)] := ⟨_, rfl⟩
 refine wp_region_gen (JS T ([(10, 7), (13, 10)] : List (Nat × Nat)) (fun lz _ wq => S3S 7 10 13 w3 M m n p (fun i => some (D i)) s 1 x.ep 0 lz wq)) (by kernel_rfl) (by kernel_rfl) (by kernel_rfl) (fitB_spec (by kernel_rfl)) (fun listed f h => JS.start listed f h (hS0 listed f h)) ?_ ?_
 ·intro i o ho
  have hi : i < 14 := (Array.getElem?_eq_some_iff.1 ho).1
  have hi' : i = 0 ∨ i = 1 ∨ i = 2 ∨ i = 3 ∨ i = 4 ∨ i = 5 ∨ i = 6 ∨ i = 7 ∨ i = 8 ∨ i = 9 ∨ i = 10 ∨ i = 11 ∨ i = 12 ∨ i = 13 := by omega
  clear hi
  rcases hi' with rfl | rfl | rfl | rfl | rfl | rfl | rfl | rfl | rfl | rfl | rfl | rfl | rfl | rfl
  all_goals (simp only [List.getElem?_toArray, List.getElem?_cons_zero, List.getElem?_cons_succ, Option.some.injEq] at ho; subst ho; intro listed f a w4 hJ hsz hls hun hdep hout hlat; first | (rw [if_pos (by rfl)]; intro K hK) | skip)
  ·have q6 := hout 6 (outB_spec (by kernel_rfl))
   refine wp_mv _ rfl (hK _ _ ?_)
   rw [show a.eval (.tmp 6) = .pointer (some ⟨M, 2 + s * 4, none⟩) from q6]
   exact hJ.nx hls hT rfl rfl (S3S.plain hJ.st 0 (by decide)) (no_head (by decide))
  ·have q6 := hout 6 (outB_spec (by kernel_rfl))
   refine wp_mv _ rfl (hK _ _ ?_)
   rw [show a.eval (.tmp 6) = .pointer (some ⟨M, 2 + s * 4, none⟩) from q6]
   exact hJ.nx hls hT rfl rfl (S3S.plain hJ.st 1 (by decide)) (no_head (by decide))
  ·have q6 := hout 6 (outB_spec (by kernel_rfl))
   refine wp_mv _ rfl (hK _ _ ?_)
   rw [show a.eval (.tmp 6) = .pointer (some ⟨M, 2 + s * 4, none⟩) from q6]
   exact hJ.nx hls hT rfl rfl (S3S.plain hJ.st 2 (by decide)) (no_head (by decide))
  ·have q3 := hout 3 (outB_spec (by kernel_rfl))
   rw [Array.getD_eq_getD_getElem?] at q3
   clear hsz hdep hout hlat
   go_simp
   exact hK _ _ (hJ.nx hls hT rfl (by first | rfl | exact congrArg (Value.int .i64) (by omega) | exact congrArg (Value.int .i64) (by rw [IntKind.wrap_i64]; omega) | exact congrArg Value.bool (decide_eq_false (by omega)) | exact congrArg Value.bool (decide_eq_true (by omega)) | exact congrArg (Value.int .u64) (by omega)) (S3S.plain hJ.st 3 (by decide)) (no_head (by decide)))
  ·have q56 := hJ.iq hT (hdep ⟨3, .data⟩ (by simp) rfl) rfl _ rfl _ rfl
   have c9 := (w39.out.bkm hJ.st.md).cells.2.2.2.1
   clear hsz hdep hout hlat
   go_simp
   exact hK _ _ (hJ.nx hls hT rfl rfl (S3S.plain hJ.st 4 (by decide)) (no_head (by decide)))
  ·have q53 := hJ.iq hT (hdep ⟨0, .data⟩ (by simp) rfl) rfl _ rfl _ rfl
   clear hsz hdep hout hlat
   go_simp
   exact hK _ _ (hJ.nx hls hT rfl (by first | rfl | exact congrArg (Value.int .i64) (by omega) | exact congrArg (Value.int .i64) (by rw [IntKind.wrap_i64]; omega) | exact congrArg Value.bool (decide_eq_false (by omega)) | exact congrArg Value.bool (decide_eq_true (by omega)) | exact congrArg (Value.int .u64) (by omega)) (S3S.plain hJ.st 5 (by decide)) (no_head (by decide)))
  ·have q58 := hJ.iq hT (hdep ⟨5, .data⟩ (by simp) rfl) rfl _ rfl _ rfl
   clear hsz hdep hout hlat
   go_simp
   exact hK _ _ (hJ.nx hls hT rfl (by first | rfl | exact congrArg (Value.int .i64) (by omega) | exact congrArg (Value.int .i64) (by rw [IntKind.wrap_i64]; omega) | exact congrArg Value.bool (decide_eq_false (by omega)) | exact congrArg Value.bool (decide_eq_true (by omega)) | exact congrArg (Value.int .u64) (by omega)) (S3S.plain hJ.st 6 (by decide)) (no_head (by decide)))
  ·have q59 := hJ.is hT (hdep ⟨6, .data⟩ (by simp) rfl) rfl _ rfl _ rfl
   have hst := hJ.st
   refine wp_st1 _ _ M (2 + s * 4 + 0) (.int .i64 1) rfl q59 rfl hst.blk (by rw [stC_len]; omega) (by kernel_rfl) rfl (fun w9 hd ho => ?_)
   exact hK _ _ (hJ.nx hls hT rfl (by trivial) (S3S.s1 hst hs16 (by rw [hls]; decide) (by decide) (by decide) ho hd) (no_head (by decide)))
  ·have q54 := hJ.iq hT (hdep ⟨1, .data⟩ (by simp) rfl) rfl _ rfl _ rfl
   clear hsz hdep hout hlat
   go_simp
   exact hK _ _ (hJ.nx hls hT rfl (by first | rfl | exact congrArg (Value.int .i64) (by omega) | exact congrArg (Value.int .i64) (by rw [IntKind.wrap_i64]; omega) | exact congrArg Value.bool (decide_eq_false (by omega)) | exact congrArg Value.bool (decide_eq_true (by omega)) | exact congrArg (Value.int .u64) (by omega)) (S3S.plain hJ.st 8 (by decide)) (no_head (by decide)))
  ·have q60 := hJ.iq hT (hdep ⟨8, .data⟩ (by simp) rfl) rfl _ rfl _ rfl
   clear hsz hdep hout hlat
   go_simp
   exact hK _ _ (hJ.nx hls hT rfl (by first | rfl | exact congrArg (Value.int .i64) (by omega) | exact congrArg (Value.int .i64) (by rw [IntKind.wrap_i64]; omega) | exact congrArg Value.bool (decide_eq_false (by omega)) | exact congrArg Value.bool (decide_eq_true (by omega)) | exact congrArg (Value.int .u64) (by omega)) (S3S.plain hJ.st 9 (by decide)) (no_head (by decide)))
  ·have q61 := hJ.is hT (hdep ⟨9, .data⟩ (by simp) rfl) rfl _ rfl _ rfl
   have q57 := hJ.is hT (hdep ⟨4, .data⟩ (by simp) rfl) rfl _ rfl _ rfl
   have hl7 := (hdep ⟨7, .chain⟩ (by simp) rfl).1
   have hord : ∀ x ∈ ([(10, 7), (13, 10)] : List (Nat × Nat)), x.1 = 10 → listed.getD x.2 false = true := (by intro x hx he; simp only [List.mem_cons, List.not_mem_nil, or_false] at hx; rcases hx with rfl | rfl; all_goals first | (exact absurd he (by decide)) | assumption)
   have hst := hJ.st
   refine wp_st1 _ _ M (2 + s * 4 + 1) (.int .u64 x.ep) rfl q61 q57 hst.blk (by rw [stC_len]; omega) (by kernel_rfl) rfl (fun w9 hd ho => ?_)
   exact hK _ _ (hJ.nx hls hT rfl (by trivial) (S3S.s2 hst hs16 (by rw [hls]; decide) (by decide) (by decide) ho hd) hord)
  ·have q55 := hJ.iq hT (hdep ⟨2, .data⟩ (by simp) rfl) rfl _ rfl _ rfl
   clear hsz hdep hout hlat
   go_simp
   exact hK _ _ (hJ.nx hls hT rfl (by first | rfl | exact congrArg (Value.int .i64) (by omega) | exact congrArg (Value.int .i64) (by rw [IntKind.wrap_i64]; omega) | exact congrArg Value.bool (decide_eq_false (by omega)) | exact congrArg Value.bool (decide_eq_true (by omega)) | exact congrArg (Value.int .u64) (by omega)) (S3S.plain hJ.st 11 (by decide)) (no_head (by decide)))
  ·have q62 := hJ.iq hT (hdep ⟨11, .data⟩ (by simp) rfl) rfl _ rfl _ rfl
   clear hsz hdep hout hlat
   go_simp
   exact hK _ _ (hJ.nx hls hT rfl (by first | rfl | exact congrArg (Value.int .i64) (by omega) | exact congrArg (Value.int .i64) (by rw [IntKind.wrap_i64]; omega) | exact congrArg Value.bool (decide_eq_false (by omega)) | exact congrArg Value.bool (decide_eq_true (by omega)) | exact congrArg (Value.int .u64) (by omega)) (S3S.plain hJ.st 12 (by decide)) (no_head (by decide)))
  have q63 := hJ.is hT (hdep ⟨12, .data⟩ (by simp) rfl) rfl _ rfl _ rfl
  have hl10 := (hdep ⟨10, .chain⟩ (by simp) rfl).1
  have hord : ∀ x ∈ ([(10, 7), (13, 10)] : List (Nat × Nat)), x.1 = 13 → listed.getD x.2 false = true := (by intro x hx he; simp only [List.mem_cons, List.not_mem_nil, or_false] at hx; rcases hx with rfl | rfl; all_goals first | (exact absurd he (by decide)) | assumption)
  have hst := hJ.st
  refine wp_st1 _ _ M (2 + s * 4 + 2) (.int .i64 0) rfl q63 rfl hst.blk (by rw [stC_len]; omega) (by kernel_rfl) rfl (fun w9 hd ho => ?_)
  exact hK _ _ (hJ.nx hls hT rfl (by trivial) (S3S.s3 hst hs16 (by rw [hls]; decide) (by decide) (by decide) ho hd) hord)
 intro listed f w4 hall hJ
 have hst := hJ.st
 simp only [putAll, Act.put, List.setIfInBounds_toArray, List.set_cons_zero, List.set_cons_succ, Nat.zero_add, Nat.reduceAdd]
 have hb9 := hst.blk
 rw [hall 7 (by simp), hall 10 (by simp), hall 13 (by simp)] at hb9
 have HB9 : Hid (Bk w4 M 115 (stC m n (updF p s ⟨1, x.ep, 0⟩) (fun i => some (D i))).toArray) := Hi hb9
 have HMD : Hid (Md M w3 w4) := Hi hst.md
 clear hst hS0 hb9
 clear hJ hall hT
 have HS4 : Hid (SS w4 B9 M m n (updF p s ⟨1, x.ep, 0⟩) D r v ∧ Md M w w4) := Hi (by
  have kt : Kt [115] 0 w3 w4 := Kt.md HMD.out (Nat.zero_le _) HS.out.blk (List.mem_singleton.2 rfl)
  refine ⟨⟨HB9.out, HS.out.ts.kts kt (by decide) (by decide) (by decide), fun i hi => ?_, HS.out.mok⟩, (Ex.md B0.out HML.out).trans HMD.out⟩
  by_cases e : i = s
  ·subst e; rw [updF_same]; exact ⟨by unfold i64; simp only; omega, HX.out.ep, by unfold i64; simp only; omega⟩
  ·rw [updF_ne _ _ e]; exact HS.out.ok i hi)
 have A4 : Hid (KB9 w4 B x) := Hi (w39.out.bkm HMD.out)
 have HXI : Hid (Vp.In x.ad x.cap x.l w4 ∧ ∀ (i : Nat) (y : Vt), x.l[i]? = some y → VI w4 y) := Hi (HXM.out w3 w4 B0.out HMD.out)
 clear HB9 HMD
 go_wp2_with fail
 obtain ⟨nl, hnl⟩ : ∃ n, n = x.l.length := ⟨_, rfl⟩
 have HNL := Hi hnl
 clear hnl
 have hS0 : ∀ (listed : Array Bool) (f : Nat → Value), (∀ i, listed.getD i false = false) → SQ 6 7 w4 (fun z9 wp => ∃ wa, Ex w4 wa ∧ FillPost2 (D s) (r s) (v s) x.l wa (.returned z9) wp) listed f w4.drew := fun _ _ h0 => SQ.start h0 (Below.refl w4.heap.size w4).drew
 obtain ⟨T, hT⟩ : ∃ T : List (Value → Prop), T = [(fun zz => zz = .pointer (some ⟨M, 2 + s * 4, none⟩)), (fun zz => zz = .pointer (some ⟨M, 2 + s * 4, none⟩)), (fun zz => zz = .pointer (some ⟨M, 2 + s * 4 + 3, none⟩)), (fun zz => zz = .pointer (some ⟨D s, 0, none⟩)), (fun zz => zz = .pointer (some ⟨B, 46, none⟩)), (fun zz => zz = .slice x.ad nl x.cap), (fun _ => True), (fun _ => True)] := ⟨_, rfl⟩
 refine wp_region_gen (JS T ([(6, 3), (6, 5), (7, 6)] : List (Nat × Nat)) (fun lz fz wq => SQ 6 7 w4 (fun z9 wp => ∃ wa, Ex w4 wa ∧ FillPost2 (D s) (r s) (v s) x.l wa (.returned z9) wp) lz fz wq)) (by kernel_rfl) (by kernel_rfl) (by kernel_rfl) (fitB_spec (by kernel_rfl)) (fun listed f h => JS.start listed f h (hS0 listed f h)) ?_ ?_
 ·intro i o ho
  have hi : i < 8 := (Array.getElem?_eq_some_iff.1 ho).1
  have hi' : i = 0 ∨ i = 1 ∨ i = 2 ∨ i = 3 ∨ i = 4 ∨ i = 5 ∨ i = 6 ∨ i = 7 := by omega
  clear hi
  rcases hi' with rfl | rfl | rfl | rfl | rfl | rfl | rfl | rfl
  all_goals (simp only [List.getElem?_toArray, List.getElem?_cons_zero, List.getElem?_cons_succ, Option.some.injEq] at ho; subst ho; intro listed f a w5 hJ hsz hls hun hdep hout hlat; first | (rw [if_pos (by rfl)]; intro K hK) | skip)
  ·have q6 := hout 6 (outB_spec (by kernel_rfl))
   refine wp_mv _ rfl (hK _ _ ?_)
   rw [show a.eval (.tmp 6) = .pointer (some ⟨M, 2 + s * 4, none⟩) from q6]
   exact hJ.nx hls hT rfl rfl (SQ.plain hJ.st (Ex.refl _) 0 (by decide)) (no_head (by decide))
  ·have q64 := hJ.iq hT (hdep ⟨0, .data⟩ (by simp) rfl) rfl _ rfl _ rfl
   clear hsz hdep hout hlat
   go_simp
   exact hK _ _ (hJ.nx hls hT rfl (by first | rfl | exact congrArg (Value.int .i64) (by omega) | exact congrArg (Value.int .i64) (by rw [IntKind.wrap_i64]; omega) | exact congrArg Value.bool (decide_eq_false (by omega)) | exact congrArg Value.bool (decide_eq_true (by omega)) | exact congrArg (Value.int .u64) (by omega)) (SQ.plain hJ.st (Ex.refl _) 1 (by decide)) (no_head (by decide)))
  ·have q65 := hJ.iq hT (hdep ⟨1, .data⟩ (by simp) rfl) rfl _ rfl _ rfl
   clear hsz hdep hout hlat
   go_simp
   exact hK _ _ (hJ.nx hls hT rfl (by first | rfl | exact congrArg (Value.int .i64) (by omega) | exact congrArg (Value.int .i64) (by rw [IntKind.wrap_i64]; omega) | exact congrArg Value.bool (decide_eq_false (by omega)) | exact congrArg Value.bool (decide_eq_true (by omega)) | exact congrArg (Value.int .u64) (by omega)) (SQ.plain hJ.st (Ex.refl _) 2 (by decide)) (no_head (by decide)))
  ·have q66 := hJ.iq hT (hdep ⟨2, .data⟩ (by simp) rfl) rfl _ rfl _ rfl
   have h6 : listed.getD 6 false = false := by
    cases hc : listed.getD 6 false with
    | false => rfl
    | true =>
     have hcx := hJ.ord (6, 3) (by simp) hc
     exact absurd hcx (by rw [hun]; decide)
   have hpre := hJ.st.ex h6
   have c6 := ((HS4.out.1.ext hpre).cells hs16).2.2.2
   clear hsz hdep hout hlat
   go_simp
   exact hK _ _ (hJ.nx hls hT rfl rfl (SQ.plain hJ.st (Ex.refl _) 3 (by decide)) (no_head (by decide)))
  ·have q3 := hout 3 (outB_spec (by kernel_rfl))
   rw [Array.getD_eq_getD_getElem?] at q3
   clear hsz hdep hout hlat
   go_simp
   exact hK _ _ (hJ.nx hls hT rfl (by first | rfl | exact congrArg (Value.int .i64) (by omega) | exact congrArg (Value.int .i64) (by rw [IntKind.wrap_i64]; omega) | exact congrArg Value.bool (decide_eq_false (by omega)) | exact congrArg Value.bool (decide_eq_true (by omega)) | exact congrArg (Value.int .u64) (by omega)) (SQ.plain hJ.st (Ex.refl _) 4 (by decide)) (no_head (by decide)))
  ·have q68 := hJ.iq hT (hdep ⟨4, .data⟩ (by simp) rfl) rfl _ rfl _ rfl
   have h6 : listed.getD 6 false = false := by
    cases hc : listed.getD 6 false with
    | false => rfl
    | true =>
     have hcx := hJ.ord (6, 5) (by simp) hc
     exact absurd hcx (by rw [hun]; decide)
   have hpre := hJ.st.ex h6
   have c6 := (A4.out.ext hpre).cells.2.2.2.2
   rw [← HNL.out] at c6
   clear hsz hdep hout hlat
   go_simp
   exact hK _ _ (hJ.nx hls hT rfl rfl (SQ.plain hJ.st (Ex.refl _) 5 (by decide)) (no_head (by decide)))
  ·have q67 := hJ.iq hT (hdep ⟨3, .data⟩ (by simp) rfl) rfl _ rfl _ rfl
   have q69 := hJ.iq hT (hdep ⟨5, .data⟩ (by simp) rfl) rfl _ rfl _ rfl
   have hl3 := (hdep ⟨3, .data⟩ (by simp) rfl).1
   have hl5 := (hdep ⟨5, .data⟩ (by simp) rfl).1
   have hord : ∀ x ∈ ([(6, 3), (6, 5), (7, 6)] : List (Nat × Nat)), x.1 = 6 → listed.getD x.2 false = true := (by intro x hx he; simp only [List.mem_cons, List.not_mem_nil, or_false] at hx; rcases hx with rfl | rfl | rfl; all_goals first | (exact absurd he (by decide)) | assumption)
   have h6 : listed.getD 6 false = false := by
    cases hc : listed.getD 6 false with
    | false => rfl
    | true =>
     exact absurd hc (by rw [hun]; decide)
   have hpre := hJ.st.ex h6
   have h7 : listed.getD 7 false = false := by
    cases hc : listed.getD 7 false with
    | false => rfl
    | true =>
     have hcx := hJ.ord (7, 6) (by simp) hc
     exact absurd hcx (by rw [hun]; decide)
   clear hsz hdep hout hlat
   go_simp
   have hp := tfill_any2 (D s) (r s) (v s) x.ad x.cap x.l HX.out.cap w5 ((HS4.out.1.ext hpre).ts.tb s hs16) (HXI.out.1.ext hpre) (fun i y hy => (HXI.out.2 i y hy).ext hpre)
   rw [← HNL.out] at hp
   refine hp.mono ?_
   intro e wq hq
   obtain ⟨_, _, rfl, _⟩ := fill_ss (HS4.out.1.ext hpre) hs16 hq HKR.out.1.2.2
   exact hK _ _ (hJ.nx hls hT rfl (by trivial) (SQ.turn (by rw [hls]; decide) (by decide) h7 ⟨w5, hpre, hq⟩) hord)
  have dd70 := hdep ⟨6, .data⟩ (by simp) rfl
  have q70 := dd70.2 _ rfl _ rfl
  have hl6 := (hdep ⟨6, .data⟩ (by simp) rfl).1
  have hord : ∀ x ∈ ([(6, 3), (6, 5), (7, 6)] : List (Nat × Nat)), x.1 = 7 → listed.getD x.2 false = true := (by intro x hx he; simp only [List.mem_cons, List.not_mem_nil, or_false] at hx; rcases hx with rfl | rfl | rfl; all_goals first | (exact absurd he (by decide)) | assumption)
  rw [Array.getD_eq_getD_getElem?] at q70
  have hst9 := hJ.st
  clear hsz hdep hout hlat
  go_simp
  exact hK _ _ (hJ.nx hls hT rfl (by trivial) (SQ.asg hst9 (by decide)) hord)
 intro listed f w5 hall hJ
 have hst := hJ.st
 simp only [putAll, Act.put, List.setIfInBounds_toArray, List.set_cons_zero, List.set_cons_succ, Nat.zero_add, Nat.reduceAdd]
 obtain ⟨wp, ⟨wa, xa, hpp⟩, xp⟩ := hst.fin (hall 6 (by simp))
 rw [hst.val (hall 7 (by simp))]
 obtain ⟨rv2, ys, h1, h2, h3, h4, h5⟩ := fill_ss (HS4.out.1.ext xa) hs16 hpp HKR.out.1.2.2
 have h1 : f 6 = .int .i64 0 := by injection h1
 rw [h1]
 have HF : Hid (InF B9 M m n p D r v s ⟨1, x.ep, 0⟩ (x.l.map Vt.ct) w w5) := Hi ⟨rv2, ys, h2, h3.ext xp, ⟨wa, HS4.out.2.trans (Ex.md xa (Nat.le_of_lt HS4.out.1.blk.lt)), h4.trans (Ex.md xp (Nat.le_trans (Nat.le_of_lt ((HS4.out.1.ext xa).ts.tb s hs16).blk.lt) h4.size))⟩, fun g hg => Nat.le_trans (Nat.le_trans HS4.out.2.size (Below.size xa)) (h5 g hg)⟩
 clear hst hS0 h1 h2 h3 h4 h5 hpp xp xa
 clear hJ hall hT
 go_wp2_with fail
 go_ret
 exact Or.inr ⟨HKR.out.1, HKR.out.2, rfl, by rw [← HSN.out]; exact HF.out⟩
set_option maxHeartbeats 8000000 in
set_option maxRecDepth 100000 in
theorem apply_done (B9 M : Nat) (m n : Int) (p : Nat → Pa) (D : Nat → Nat) (r : Nat → Value) (v : Nat → List Vt) (x : Rk) (hk : x.kind = 4) (E1 : Int) (hE1 : E1 = if (p x.shard.toNat).role = 2 ∧ (p x.shard.toNat).ep = x.ep then 0 else 26) (w : World) (hx : x.In w) (h : SS w B9 M m n p D r v) : Calls Try.prog 17 #[.pointer (some ⟨M, 0, none⟩), x.V] w (AOPost x.doneR E1 (InF B9 M m n p D r v x.shard.toNat ⟨0, (p x.shard.toNat).ep, 0⟩ [] w) w) := by
 have HE1 := Hi hE1
 clear hE1
 obtain ⟨cs, hcs⟩ : ∃ cs, cs = x.C.toArray := ⟨_, rfl⟩
 have A0 : Hid (KB9 (w.alloc (.cells cs 39)) w.heap.size x) := Hi ⟨hx.v.ok, by rw [hcs]; exact Bk.new rfl _ _⟩
 have B0 : Hid (Ex w (w.alloc (.cells cs 39))) := Hi (Ex.alloc _ _)
 have HS := Hi (h.ext B0.out)
 rw [show (Calls Try.prog 17 #[.pointer (some ⟨M, 0, none⟩), x.V] w) = (Calls Try.prog 17 #[.pointer (some ⟨M, 0, none⟩), .agg cs] w) by rw [hcs]; rfl]
 have HX := Hi hx
 have HML := Hi (Nat.le_of_lt h.blk.lt)
 clear hcs hx h
 have HK := Hi hk
 go_enter Try.func17, Try.ntmps17
 go_wp2_with (first | ((with_reducible refine so0 ?_ ?_); (focus rfl)) | ((with_reducible refine so4 [112, 1000 + 112, 32, 39] ?_ ?_); (focus rfl)))
 (with_reducible refine ⟨?_⟩)
 change wpList _ _ _ _ _ (w.alloc (.cells cs 39))
 generalize hw1 : w.alloc (.cells cs 39) = w1 at *
 clear hw1
 obtain ⟨B, hB⟩ : ∃ B, B = w.heap.size := ⟨_, rfl⟩
 rw [← hB] at A0 ⊢
 have HB := Hi hB
 clear hB
 (with_reducible refine at_any ?_ ?_); (focus go_simp); refine fun K0 hK => ld_rk _ B x rfl rfl A0.out (hK _ _ ?_)
 clear hK
 go_wp2_with fail
 refine (check_done B9 M m n p D r v x HK.out E1 HE1.out w1 (HX.out.ext B0.out) HS.out).mono ?_
 rintro e w2 ⟨E, rfl, he1, he2, x2⟩
 replace A0 := Hi (A0.out.ext x2)
 replace HS := Hi (HS.out.ext x2)
 replace B0 := Hi (Ex.trans B0.out x2)
 have HE := Hi (And.intro he1 he2)
 clear he1 he2 x2
 by_cases hE0 : E = 0
 rotate_left
 ·skip
  go_wp2_with fail
  go_ret
  exact Or.inl ⟨fun h => hE0 ((HE.out.1 h.1).trans h.2), ⟨E, rfl, hE0, HE.out.1, HE.out.2⟩, B0.out⟩
 subst hE0
 have HKR : Hid (x.doneR ∧ E1 = 0) := Hi (by
  have hr : x.doneR := Classical.byContradiction (fun h => by have := HE.out.2 h; omega)
  exact ⟨hr, (HE.out.1 hr).symm⟩)
 obtain ⟨s, hs⟩ : ∃ s, s = x.shard.toNat := ⟨_, rfl⟩
 have HSH : Hid (x.shard = (s : Int)) := Hi (by have := HKR.out.1.1.1; rw [hs]; omega)
 have hs16 : s < 16 := by have h1 := HKR.out.1.1.1; have h2 := HKR.out.1.1.2.1; rw [hs]; omega
 have q0 : (0 : Int) ≤ (s : Int) := by omega
 have q1 : (s : Int) < 16 := by omega
 have HSN := Hi hs
 clear hs
 have c0 : w2.cell? ⟨B, 0, none⟩ = some (.int .i64 4) := by rw [← HK.out]; exact A0.out.cells.1
 have c1 : w2.cell? ⟨B, 1, none⟩ = some (.int .i64 (s : Int)) := by rw [← HSH.out]; exact A0.out.cells.2.1
 go_wp2_with fail
 clear c0 c1
 have hS0 : ∀ (listed : Array Bool) (f : Nat → Value), (∀ i, listed.getD i false = false) → Ex w2 w2.drew := fun _ _ _ => (Below.refl w2.heap.size w2).drew
 obtain ⟨T, hT⟩ : ∃ T : List (Value → Prop), T = [(fun zz => zz = .pointer (some ⟨M, 0, none⟩)), (fun zz => zz = .pointer (some ⟨B, 1, none⟩)), (fun zz => zz = .int .i64 (s : Int)), (fun zz => zz = .pointer (some ⟨M, 0, none⟩)), (fun zz => zz = .pointer (some ⟨M, 2, none⟩)), (fun zz => zz = .pointer (some ⟨M, 2 + s * 4, none⟩)), (fun zz => zz = .pointer (some ⟨M, 2 + s * 4, none⟩))] := ⟨_, rfl⟩
 refine wp_region_gen (JS T ([] : List (Nat × Nat)) (fun _ _ wq => Ex w2 wq)) (by kernel_rfl) (by kernel_rfl) (by kernel_rfl) (fitB_spec (by kernel_rfl)) (fun listed f h => JS.start listed f h (hS0 listed f h)) ?_ ?_
 ·intro i o ho
  have hi : i < 7 := (Array.getElem?_eq_some_iff.1 ho).1
  have hi' : i = 0 ∨ i = 1 ∨ i = 2 ∨ i = 3 ∨ i = 4 ∨ i = 5 ∨ i = 6 := by omega
  clear hi
  rcases hi' with rfl | rfl | rfl | rfl | rfl | rfl | rfl
  all_goals (simp only [List.getElem?_toArray, List.getElem?_cons_zero, List.getElem?_cons_succ, Option.some.injEq] at ho; subst ho; intro listed f a w3 hJ hsz hls hun hdep hout hlat; first | (rw [if_pos (by rfl)]; intro K hK) | skip)
  ·have q0 := hout 0 (outB_spec (by kernel_rfl))
   refine wp_mv _ rfl (hK _ _ ?_)
   rw [show a.eval (.tmp 0) = .pointer (some ⟨M, 0, none⟩) from q0]
   exact hJ.nx hls hT rfl rfl hJ.st (no_head (by decide))
  ·have q3 := hout 3 (outB_spec (by kernel_rfl))
   rw [Array.getD_eq_getD_getElem?] at q3
   clear hsz hdep hout hlat
   go_simp
   exact hK _ _ (hJ.nx hls hT rfl (by first | rfl | exact congrArg (Value.int .i64) (by omega) | exact congrArg (Value.int .i64) (by rw [IntKind.wrap_i64]; omega) | exact congrArg Value.bool (decide_eq_false (by omega)) | exact congrArg Value.bool (decide_eq_true (by omega)) | exact congrArg (Value.int .u64) (by omega)) hJ.st (no_head (by decide)))
  ·have q14 := hJ.iq hT (hdep ⟨1, .data⟩ (by simp) rfl) rfl _ rfl _ rfl
   have c9 : w3.cell? ⟨B, 1, none⟩ = some (.int .i64 (s : Int)) := by rw [← HSH.out]; exact (A0.out.ext hJ.st).cells.2.1
   clear hsz hdep hout hlat
   go_simp
   exact hK _ _ (hJ.nx hls hT rfl rfl hJ.st (no_head (by decide)))
  ·have q13 := hJ.iq hT (hdep ⟨0, .data⟩ (by simp) rfl) rfl _ rfl _ rfl
   clear hsz hdep hout hlat
   go_simp
   exact hK _ _ (hJ.nx hls hT rfl (by first | rfl | exact congrArg (Value.int .i64) (by omega) | exact congrArg (Value.int .i64) (by rw [IntKind.wrap_i64]; omega) | exact congrArg Value.bool (decide_eq_false (by omega)) | exact congrArg Value.bool (decide_eq_true (by omega)) | exact congrArg (Value.int .u64) (by omega)) hJ.st (no_head (by decide)))
  ·have q16 := hJ.iq hT (hdep ⟨3, .data⟩ (by simp) rfl) rfl _ rfl _ rfl
   clear hsz hdep hout hlat
   go_simp
   exact hK _ _ (hJ.nx hls hT rfl (by first | rfl | exact congrArg (Value.int .i64) (by omega) | exact congrArg (Value.int .i64) (by rw [IntKind.wrap_i64]; omega) | exact congrArg Value.bool (decide_eq_false (by omega)) | exact congrArg Value.bool (decide_eq_true (by omega)) | exact congrArg (Value.int .u64) (by omega)) hJ.st (no_head (by decide)))
  ·have q17 := hJ.iq hT (hdep ⟨4, .data⟩ (by simp) rfl) rfl _ rfl _ rfl
   have q15 := hJ.iq hT (hdep ⟨2, .data⟩ (by simp) rfl) rfl _ rfl _ rfl
   clear hsz hdep hout hlat
   go_simp
   exact hK _ _ (hJ.nx hls hT rfl (by first | rfl | exact congrArg (Value.int .i64) (by omega) | exact congrArg (Value.int .i64) (by rw [IntKind.wrap_i64]; omega) | exact congrArg Value.bool (decide_eq_false (by omega)) | exact congrArg Value.bool (decide_eq_true (by omega)) | exact congrArg (Value.int .u64) (by omega)) hJ.st (no_head (by decide)))
  have q18 := hJ.iq hT (hdep ⟨5, .data⟩ (by simp) rfl) rfl _ rfl _ rfl
  clear hsz hdep hout hlat
  go_simp
  exact hK _ _ (hJ.nx hls hT rfl (by first | rfl | exact congrArg (Value.int .i64) (by omega) | exact congrArg (Value.int .i64) (by rw [IntKind.wrap_i64]; omega) | exact congrArg Value.bool (decide_eq_false (by omega)) | exact congrArg Value.bool (decide_eq_true (by omega)) | exact congrArg (Value.int .u64) (by omega)) hJ.st (no_head (by decide)))
 intro listed f w3 hall hJ
 have f6 : f 6 = .pointer (some ⟨M, 2 + s * 4, none⟩) := by
  have h := hJ.vals 6 (hall 6 (by simp))
  rw [hT] at h; exact h
 have hst := hJ.st
 simp only [putAll, Act.put, List.setIfInBounds_toArray, List.set_cons_zero, List.set_cons_succ, Nat.zero_add, Nat.reduceAdd]
 have x3 : Ex w2 w3 := hst
 replace A0 := Hi (A0.out.ext x3)
 replace HS := Hi (HS.out.ext x3)
 replace B0 := Hi (Ex.trans B0.out x3)
 clear hst hS0 x3
 rw [f6]
 clear f6
 clear hJ hall hT
 have c0 : w3.cell? ⟨B, 0, none⟩ = some (.int .i64 4) := by rw [← HK.out]; exact A0.out.cells.1
 have w39 : Hid (KBM w3 B M x) := Hi ⟨A0.out, fun e => by have h1 := A0.out.2; have h2 := HS.out.blk; rw [e] at h1; unfold Bk at h1 h2; rw [h1] at h2; exact absurd (Obj.cells.inj (Option.some.inj h2)).2.1 (by decide)⟩
 go_wp2_with ((with_reducible refine so4 [1000 + 3] ?_ ?_); (focus rfl))
 clear c0
 refine at9 (by go_simp) fun K0 hK => wp_st1 _ _ M (2 + s * 4) (.int .i64 0) rfl rfl rfl HS.out.blk (by rw [stC_len]; omega) (by kernel_rfl) rfl (fun w9 hd ho => hK _ _ ?_)
 clear hK
 have hb9 : Bk w9 M 115 (stC m n (updF p s ⟨0, (p s).ep, (p s).tw⟩) (fun i => some (D i))).toArray := by rw [← stC_set m n p (fun i => some (D i)) ⟨0, (p s).ep, (p s).tw⟩ (.int .i64 0) hs16 (show 0 < 4 by decide) rfl]; exact hd
 have HB := Hi hb9
 have HM9 := Hi ho.md
 clear hd ho hb9
 go_wp2_with ((with_reducible refine so4 [1000 + 3] ?_ ?_); (focus rfl))
 refine at9 (by go_simp) fun K0 hK => wp_st1 _ _ M (2 + s * 4 + 2) (.int .i64 0) rfl rfl rfl HB.out (by rw [stC_len]; omega) (by kernel_rfl) rfl (fun w4 hd ho => hK _ _ ?_)
 clear hK
 have HB9 : Hid (Bk w4 M 115 (stC m n (updF p s ⟨0, (p s).ep, 0⟩) (fun i => some (D i))).toArray) := Hi (by rw [← updF_upd p s ⟨0, (p s).ep, (p s).tw⟩ ⟨0, (p s).ep, 0⟩, ← stC_set m n (updF p s ⟨0, (p s).ep, (p s).tw⟩) (fun i => some (D i)) ⟨0, (p s).ep, 0⟩ (.int .i64 0) hs16 (show 2 < 4 by decide) (by rw [updF_same]; rfl)]; exact hd)
 have HMD : Hid (Md M w3 w4) := Hi (HM9.out.trans ho.md)
 clear hd ho HB HM9
 have HS4 : Hid (SS w4 B9 M m n (updF p s ⟨0, (p s).ep, 0⟩) D r v ∧ Md M w w4) := Hi (by
  have kt : Kt [115] 0 w3 w4 := Kt.md HMD.out (Nat.zero_le _) HS.out.blk (List.mem_singleton.2 rfl)
  refine ⟨⟨HB9.out, HS.out.ts.kts kt (by decide) (by decide) (by decide), fun i hi => ?_, HS.out.mok⟩, (Ex.md B0.out HML.out).trans HMD.out⟩
  by_cases e : i = s
  ·subst e; rw [updF_same]; exact ⟨by unfold i64; simp only; omega, (HS.out.ok i hi).ep, by unfold i64; simp only; omega⟩
  ·rw [updF_ne _ _ e]; exact HS.out.ok i hi)
 have A4 : Hid (KB9 w4 B x) := Hi (w39.out.bkm HMD.out)
 clear HB9 HMD
 have c6 := (HS4.out.1.cells hs16).2.2.2
 go_wp2_with fail
 refine (tfill_any2 (D s) (r s) (v s) none 0 [] (by decide) w4 (HS4.out.1.ts.tb s hs16) ⟨Nat.le_refl _, fun _ => rfl, fun i y hy => by simp at hy, fun h => absurd h (Nat.lt_irrefl 0)⟩ (fun i y hy => by simp at hy)).mono ?_
 intro e w5 hq
 have hr0 : Rising [] := ⟨by decide, fun i y hy => by simp at hy, fun i hi => absurd hi (Nat.not_lt_zero _)⟩
 obtain ⟨rv2, ys, rfl, h2, h3, h4, h5⟩ := fill_ss HS4.out.1 hs16 hq hr0
 have HF : Hid (InF B9 M m n p D r v s ⟨0, (p s).ep, 0⟩ [] w w5) := Hi ⟨rv2, ys, h2, h3, ⟨w4, HS4.out.2, h4⟩, fun g hg => Nat.le_trans HS4.out.2.size (h5 g hg)⟩
 clear h2 h3 h4 h5 hq c6
 go_wp2_with fail
 go_ret
 exact Or.inr ⟨HKR.out.1, HKR.out.2, rfl, by rw [← HSN.out]; exact HF.out⟩
end Go.Proofs.Ytmjfnpmnhehnkaa
