/- Sp, Sg, Sm -/
import Derived.Test.YtmjfnpmnhehnkaaQav
import Derived.WideKeyPair
import Derived.WideKeyElems
import Derived.ChangeMaps3
set_option maxRecDepth 100000
set_option maxHeartbeats 16000000
namespace Go.Proofs.Ytmjfnpmnhehnkaa
open Go.RowKit
theorem SS.Mne {w : World} {B M s : Nat} {m n : Int} {p : Nat → Pa} {D : Nat → Nat} {r : Nat → Value} {v : Nat → List Vt} (h : SS w B M m n p D r v) (hs : s < 16) : M ≠ D s := fun e9 => by
 have h1 := h.blk; have h2 := (h.ts.tb s hs).blk
 rw [e9] at h1; unfold Bk at h1 h2; rw [h1] at h2; exact absurd (Obj.cells.inj (Option.some.inj h2)).2.1 (by decide)
theorem fill_ss {w w' : World} {B M s : Nat} {m n : Int} {p : Nat → Pa} {D : Nat → Nat} {r : Nat → Value} {v : Nat → List Vt} {xs : List Vt} {e : Ending} (h : SS w B M m n p D r v) (hs : s < 16) (hp : FillPost2 (D s) (r s) (v s) xs w e w') (hr : Rising xs) : ∃ rv' ys, e = .returned (.int .i64 0) ∧ ys.map Vt.ct = xs.map Vt.ct ∧ SS w' B M m n p D (updF r s rv') (updF v s ys) ∧ Md (D s) w w' ∧ (∀ g, rv'.ownBlock = some g → w.heap.size ≤ g) := by
 obtain ⟨⟨_, rfl, rv', ys, h1, h2, h3, _⟩ | ⟨h1, _⟩, hm⟩ := hp
 ·exact ⟨rv', ys, rfl, h2, ⟨hm.bk h.blk (h.Mne hs), h.ts.fill hs h1 hm h3, h.ok, h.mok⟩, hm, h3⟩
 exact absurd hr h1
def Md2 (a b : Nat) (w w' : World) : Prop := ∃ wm, Md a w wm ∧ Md b wm w'
structure SQ (it ia : Nat) (w0 : World) (Fin : Value → World → Prop) (l : Array Bool) (f : Nat → Value) (w : World) : Prop where
 ex : l.getD it false = false → Ex w0 w
 fin : l.getD it false = true → ∃ wp, Fin (f it) wp ∧ Ex wp w
 val : l.getD ia false = true → f ia = f it
section
variable {it ia : Nat} {w0 w w' : World} {Fin : Value → World → Prop} {l : Array Bool} {f : Nat → Value} {x : Value}
theorem SQ.start (h0 : ∀ i, l.getD i false = false) (hx : Ex w0 w) : SQ it ia w0 Fin l f w := ⟨fun _ => hx, (fun a => by rw [h0] at a; cases a), (fun a => by rw [h0] at a; cases a)⟩
theorem SQ.plain (h : SQ it ia w0 Fin l f w) (kx : Ex w w') (i : Nat) (hi : i ≠ it ∧ i ≠ ia) : SQ it ia w0 Fin (l.setIfInBounds i true) (upd f i x) w' := by
 refine ⟨fun a => ?_, fun a => ?_, fun a => ?_⟩
 ·rw [gset hi.1 false] at a; exact Ex.trans (h.ex a) kx
 ·rw [gset hi.1 false] at a; rw [upd_ne _ _ (Ne.symm hi.1)]
  obtain ⟨wp, h1, h2⟩ := h.fin a
  exact ⟨wp, h1, Ex.trans h2 kx⟩
 rw [gset hi.2 false] at a; rw [upd_ne _ _ (Ne.symm hi.1), upd_ne _ _ (Ne.symm hi.2)]; exact h.val a
theorem SQ.turn (hl : it < l.size) (hne : it ≠ ia) (ha : l.getD ia false = false) (hf : Fin x w') : SQ it ia w0 Fin (l.setIfInBounds it true) (upd f it x) w' := by
 refine ⟨fun a => ?_, fun _ => ?_, fun a => ?_⟩
 ·rw [set_new hl] at a; cases a
 ·rw [upd_same]; exact ⟨w', hf, Ex.refl _⟩
 rw [gset hne false, ha] at a; cases a
theorem SQ.asg (h : SQ it ia w0 Fin l f w) (hne : it ≠ ia) : SQ it ia w0 Fin (l.setIfInBounds ia true) (upd f ia (f it)) w := by
 refine ⟨fun a => ?_, fun a => ?_, fun _ => ?_⟩
 ·rw [gset (Ne.symm hne) false] at a; exact h.ex a
 ·rw [gset (Ne.symm hne) false] at a; rw [upd_ne _ _ hne]; exact h.fin a
 rw [upd_same, upd_ne _ _ hne]
end
def InF (B9 M : Nat) (m n : Int) (p : Nat → Pa) (D : Nat → Nat) (r : Nat → Value) (v : Nat → List Vt) (s : Nat) (q : Pa) (C : List Vc) (w w' : World) : Prop := ∃ rv' ys, ys.map Vt.ct = C ∧ SS w' B9 M m n (updF p s q) D (updF r s rv') (updF v s ys) ∧ Md2 M (D s) w w' ∧ (∀ g, rv'.ownBlock = some g → w.heap.size ≤ g)
theorem Md2.ext {a b : Nat} {w w1 w' : World} (h : Md2 a b w w1) (k : Ex w1 w') (hb : b ≤ w1.heap.size) : Md2 a b w w' := by
 obtain ⟨wm, h1, h2⟩ := h
 exact ⟨wm, h1, h2.trans (Ex.md k hb)⟩
theorem apply_in (B9 M : Nat) (m n : Int) (p : Nat → Pa) (D : Nat → Nat) (r : Nat → Value) (v : Nat → List Vt) (x : Rk) (hk : x.kind = 3) (E1 : Int) (hE1 : AllOf x.l (x.shard.toNat : Int) → E1 = inE (p x.shard.toNat) x.ep) (hE2 : ¬ AllOf x.l (x.shard.toNat : Int) → E1 = 1) (w : World) (hx : x.In w) (hmd : ∀ wa wb, Ex w wa → Md M wa wb → Vp.In x.ad x.cap x.l wb ∧ ∀ (i : Nat) (y : Vt), x.l[i]? = some y → VI wb y) (h : SS w B9 M m n p D r v) : Calls Try.prog 17 #[.pointer (some ⟨M, 0, none⟩), x.V] w (AOPost x.inR E1 (InF B9 M m n p D r v x.shard.toNat ⟨1, x.ep, 0⟩ (x.l.map Vt.ct) w) w) := by
 have HE1 := Hi hE1
 have HE2 := Hi hE2
 clear hE1 hE2
 obtain ⟨cs, hcs⟩ : ∃ cs, cs = x.C.toArray := ⟨_, rfl⟩
 have A0 : Hid (KB9 (w.alloc (.cells cs 39)) w.heap.size x) := Hi ⟨hx.v.ok, by rw [hcs]; exact Bk.new rfl _ _⟩
 have B0 : Hid (Ex w (w.alloc (.cells cs 39))) := Hi (Ex.alloc _ _)
 have HS := Hi (h.ext B0.out)
 rw [show (Calls Try.prog 17 #[.pointer (some ⟨M, 0, none⟩), x.V] w) = (Calls Try.prog 17 #[.pointer (some ⟨M, 0, none⟩), .agg cs] w) by rw [hcs]; rfl]
 have HX := Hi hx
 have HML := Hi (Nat.le_of_lt h.blk.lt)
 have HXM := Hi hmd
 clear hcs hx h
 have HK := Hi hk
 go_enter Try.func17, Try.ntmps17
 go_wp2_with (first | ((with_reducible refine so0 ?_ ?_); (focus rfl)) | ((with_reducible refine so4 [112, 1000 + 112, 32, 39] ?_ ?_); (focus rfl)))
 (with_reducible refine ⟨?_⟩)
 change wpList _ _ _ _ _ (w.alloc (.cells cs 39))
 generalize hw1 : w.alloc (.cells cs 39) = w1 at *
 clear hw1
 obtain ⟨B, hB⟩ : ∃ B, B = w.heap.size := ⟨_, rfl⟩
 rw [← hB] at A0 ⊢
 have HB := Hi hB
 clear hB
 (with_reducible refine at_any ?_ ?_); (focus go_simp); refine fun K0 hK => ld_rk _ B x rfl rfl A0.out (hK _ _ ?_)
 clear hK
 go_wp2_with fail
 refine (check_in B9 M m n p D r v x HK.out E1 HE1.out HE2.out w1 (HX.out.ext B0.out) HS.out).mono ?_
 rintro e w2 ⟨E, rfl, he1, he2, x2⟩
 replace A0 := Hi (A0.out.ext x2)
 replace HS := Hi (HS.out.ext x2)
 replace B0 := Hi (Ex.trans B0.out x2)
 have HE := Hi (And.intro he1 he2)
 clear he1 he2 x2
 by_cases hE0 : E = 0
 rotate_left
 ·skip
  go_wp2_with fail
  go_ret
  exact Or.inl ⟨fun h => hE0 ((HE.out.1 h.1).trans h.2), ⟨E, rfl, hE0, HE.out.1, HE.out.2⟩, B0.out⟩
 subst hE0
 have HKR : Hid (x.inR ∧ E1 = 0) := Hi (by
  have hr : x.inR := Classical.byContradiction (fun h => by have := HE.out.2 h; omega)
  exact ⟨hr, (HE.out.1 hr).symm⟩)
 obtain ⟨s, hs⟩ : ∃ s, s = x.shard.toNat := ⟨_, rfl⟩
 have HSH : Hid (x.shard = (s : Int)) := Hi (by have := HKR.out.1.1.1; rw [hs]; omega)
 have hs16 : s < 16 := by have h1 := HKR.out.1.1.1; have h2 := HKR.out.1.1.2.1; rw [hs]; omega
 have q0 : (0 : Int) ≤ (s : Int) := by omega
 have q1 : (s : Int) < 16 := by omega
 have HSN := Hi hs
 clear hs
 have c0 : w2.cell? ⟨B, 0, none⟩ = some (.int .i64 3) := by rw [← HK.out]; exact A0.out.cells.1
 have c1 : w2.cell? ⟨B, 1, none⟩ = some (.int .i64 (s : Int)) := by rw [← HSH.out]; exact A0.out.cells.2.1
 go_wp2_with fail
 clear c0 c1
 have hS0 : ∀ (listed : Array Bool) (f : Nat → Value), (∀ i, listed.getD i false = false) → Ex w2 w2.drew := fun _ _ _ => (Below.refl w2.heap.size w2).drew
 obtain ⟨T, hT⟩ : ∃ T : List (Value → Prop), T = [(fun zz => zz = .pointer (some ⟨M, 0, none⟩)), (fun zz => zz = .pointer (some ⟨B, 1, none⟩)), (fun zz => zz = .int .i64 (s : Int)), (fun zz => zz = .pointer (some ⟨M, 0, none⟩)), (fun zz => zz = .pointer (some ⟨M, 2, none⟩)), (fun zz => zz = .pointer (some ⟨M, 2 + s * 4, none⟩)), (fun zz => zz = .pointer (some ⟨M, 2 + s * 4, none⟩))] := ⟨_, rfl⟩
 refine wp_region_gen (JS T ([] : List (Nat × Nat)) (fun _ _ wq => Ex w2 wq)) (by kernel_rfl) (by kernel_rfl) (by kernel_rfl) (fitB_spec (by kernel_rfl)) (fun listed f h => JS.start listed f h (hS0 listed f h)) ?_ ?_
 ·intro i o ho
  have hi : i < 7 := (Array.getElem?_eq_some_iff.1 ho).1
  have hi' : i = 0 ∨ i = 1 ∨ i = 2 ∨ i = 3 ∨ i = 4 ∨ i = 5 ∨ i = 6 := by omega
  clear hi
  rcases hi' with rfl | rfl | rfl | rfl | rfl | rfl | rfl
  all_goals (simp only [List.getElem?_toArray, List.getElem?_cons_zero, List.getElem?_cons_succ, Option.some.injEq] at ho; subst ho; intro listed f a w3 hJ hsz hls hun hdep hout hlat; first | (rw [if_pos (by rfl)]; intro K hK) | skip)
  ·have q0 := hout 0 ob
   exact wp_mw _ rfl q0 (hK _ _ (hJ.nx hls hT rfl rfl hJ.st nh))
  ·have q3 := hout 3 ob
   rw [gd9] at q3
   clear hsz hdep hout hlat
   go_simp
   exact hK _ _ (hJ.na hls hT hJ.st)
  ·have q14 := hJ.iq hT (hdep ⟨1, .data⟩ (by simp) rfl) rfl _ rfl _ rfl
   have c9 : w3.cell? ⟨B, 1, none⟩ = some (.int .i64 (s : Int)) := by rw [← HSH.out]; exact (A0.out.ext hJ.st).cells.2.1
   clear hsz hdep hout hlat
   go_simp
   exact hK _ _ (hJ.nx hls hT rfl rfl hJ.st nh)
  ·have q13 := hJ.iq hT (hdep ⟨0, .data⟩ (by simp) rfl) rfl _ rfl _ rfl
   clear hsz hdep hout hlat
   go_simp
   exact hK _ _ (hJ.na hls hT hJ.st)
  ·have q16 := hJ.iq hT (hdep ⟨3, .data⟩ (by simp) rfl) rfl _ rfl _ rfl
   clear hsz hdep hout hlat
   go_simp
   exact hK _ _ (hJ.na hls hT hJ.st)
  ·have q17 := hJ.iq hT (hdep ⟨4, .data⟩ (by simp) rfl) rfl _ rfl _ rfl
   have q15 := hJ.iq hT (hdep ⟨2, .data⟩ (by simp) rfl) rfl _ rfl _ rfl
   clear hsz hdep hout hlat
   go_simp
   exact hK _ _ (hJ.na hls hT hJ.st)
  have q18 := hJ.iq hT (hdep ⟨5, .data⟩ (by simp) rfl) rfl _ rfl _ rfl
  clear hsz hdep hout hlat
  go_simp
  exact hK _ _ (hJ.na hls hT hJ.st)
 intro listed f w3 hall hJ
 have f6 := hJ.fa hT (hall 6 (by simp)) rfl
 have hst := hJ.st
 simp only [putAll, Act.put, List.setIfInBounds_toArray, List.set_cons_zero, List.set_cons_succ, Nat.zero_add, Nat.reduceAdd]
 have x3 : Ex w2 w3 := hst
 replace A0 := Hi (A0.out.ext x3)
 replace HS := Hi (HS.out.ext x3)
 replace B0 := Hi (Ex.trans B0.out x3)
 clear hst hS0 x3
 rw [f6]
 clear f6
 clear hJ hall hT
 have c0 : w3.cell? ⟨B, 0, none⟩ = some (.int .i64 3) := by rw [← HK.out]; exact A0.out.cells.1
 have w39 : Hid (KBM w3 B M x) := Hi ⟨A0.out, fun e => by have h1 := A0.out.2; have h2 := HS.out.blk; rw [e] at h1; unfold Bk at h1 h2; rw [h1] at h2; exact absurd (Obj.cells.inj (Option.some.inj h2)).2.1 (by decide)⟩
 go_wp2_with fail
 clear c0
 have hS0 : ∀ (listed : Array Bool) (f : Nat → Value), (∀ i, listed.getD i false = false) → S3S 7 10 13 w3 M m n p (fun i => some (D i)) s 1 x.ep 0 listed w3.drew := fun _ _ h0 => S3S.start h0 (HS.out.blk.ext (Below.refl w3.heap.size w3).drew) (Ex.md (show Ex w3 w3.drew from (Below.refl w3.heap.size w3).drew) (Nat.le_of_lt HS.out.blk.lt))
 obtain ⟨T, hT⟩ : ∃ T : List (Value → Prop), T = [(fun zz => zz = .pointer (some ⟨M, 2 + s * 4, none⟩)), (fun zz => zz = .pointer (some ⟨M, 2 + s * 4, none⟩)), (fun zz => zz = .pointer (some ⟨M, 2 + s * 4, none⟩)), (fun zz => zz = .pointer (some ⟨B, 3, none⟩)), (fun zz => zz = .int .u64 x.ep), (fun zz => zz = .pointer (some ⟨M, 2 + s * 4, none⟩)), (fun zz => zz = .pointer (some ⟨M, 2 + s * 4, none⟩)), (fun _ => True), (fun zz => zz = .pointer (some ⟨M, 2 + s * 4, none⟩)), (fun zz => zz = .pointer (some ⟨M, 2 + s * 4 + 1, none⟩)), (fun _ => True), (fun zz => zz = .pointer (some ⟨M, 2 + s * 4, none⟩)), (fun zz => zz = .pointer (some ⟨M, 2 + s * 4 + 2, none⟩)), (fun _ => True)] := ⟨_, rfl⟩
 refine wp_region_gen (JS T ([(10, 7), (13, 10)] : List (Nat × Nat)) (fun lz _ wq => S3S 7 10 13 w3 M m n p (fun i => some (D i)) s 1 x.ep 0 lz wq)) (by kernel_rfl) (by kernel_rfl) (by kernel_rfl) (fitB_spec (by kernel_rfl)) (fun listed f h => JS.start listed f h (hS0 listed f h)) ?_ ?_
 ·intro i o ho
  have hi : i < 14 := (Array.getElem?_eq_some_iff.1 ho).1
  have hi' : i = 0 ∨ i = 1 ∨ i = 2 ∨ i = 3 ∨ i = 4 ∨ i = 5 ∨ i = 6 ∨ i = 7 ∨ i = 8 ∨ i = 9 ∨ i = 10 ∨ i = 11 ∨ i = 12 ∨ i = 13 := by omega
  clear hi
  rcases hi' with rfl | rfl | rfl | rfl | rfl | rfl | rfl | rfl | rfl | rfl | rfl | rfl | rfl | rfl
  all_goals (simp only [List.getElem?_toArray, List.getElem?_cons_zero, List.getElem?_cons_succ, Option.some.injEq] at ho; subst ho; intro listed f a w4 hJ hsz hls hun hdep hout hlat; first | (rw [if_pos (by rfl)]; intro K hK) | skip)
  ·have q6 := hout 6 ob
   exact wp_mw _ rfl q6 (hK _ _ (hJ.nx hls hT rfl rfl (S3S.plain hJ.st 0 (by decide)) nh))
  ·have q6 := hout 6 ob
   exact wp_mw _ rfl q6 (hK _ _ (hJ.nx hls hT rfl rfl (S3S.plain hJ.st 1 (by decide)) nh))
  ·have q6 := hout 6 ob
   exact wp_mw _ rfl q6 (hK _ _ (hJ.nx hls hT rfl rfl (S3S.plain hJ.st 2 (by decide)) nh))
  ·have q3 := hout 3 ob
   rw [gd9] at q3
   clear hsz hdep hout hlat
   go_simp
   exact hK _ _ (hJ.na hls hT (S3S.plain hJ.st 3 (by decide)))
  ·have q56 := hJ.iq hT (hdep ⟨3, .data⟩ (by simp) rfl) rfl _ rfl _ rfl
   have c9 := (w39.out.bkm hJ.st.md).cells.2.2.2.1
   clear hsz hdep hout hlat
   go_simp
   exact hK _ _ (hJ.nx hls hT rfl rfl (S3S.plain hJ.st 4 (by decide)) nh)
  ·have q53 := hJ.iq hT (hdep ⟨0, .data⟩ (by simp) rfl) rfl _ rfl _ rfl
   clear hsz hdep hout hlat
   go_simp
   exact hK _ _ (hJ.na hls hT (S3S.plain hJ.st 5 (by decide)))
  ·have q58 := hJ.iq hT (hdep ⟨5, .data⟩ (by simp) rfl) rfl _ rfl _ rfl
   clear hsz hdep hout hlat
   go_simp
   exact hK _ _ (hJ.na hls hT (S3S.plain hJ.st 6 (by decide)))
  ·have q59 := hJ.is hT (hdep ⟨6, .data⟩ (by simp) rfl) rfl _ rfl _ rfl
   have hst := hJ.st
   refine wp_st1 _ _ M (2 + s * 4 + 0) (.int .i64 1) rfl q59 rfl hst.blk (by rw [stC_len]; omega) (by kernel_rfl) rfl (fun w9 hd ho => ?_)
   exact hK _ _ (hJ.nx hls hT rfl (by trivial) (S3S.s1 hst hs16 (by rw [hls]; decide) (by decide) (by decide) ho hd) nh)
  ·have q54 := hJ.iq hT (hdep ⟨1, .data⟩ (by simp) rfl) rfl _ rfl _ rfl
   clear hsz hdep hout hlat
   go_simp
   exact hK _ _ (hJ.na hls hT (S3S.plain hJ.st 8 (by decide)))
  ·have q60 := hJ.iq hT (hdep ⟨8, .data⟩ (by simp) rfl) rfl _ rfl _ rfl
   clear hsz hdep hout hlat
   go_simp
   exact hK _ _ (hJ.na hls hT (S3S.plain hJ.st 9 (by decide)))
  ·have q61 := hJ.is hT (hdep ⟨9, .data⟩ (by simp) rfl) rfl _ rfl _ rfl
   have q57 := hJ.is hT (hdep ⟨4, .data⟩ (by simp) rfl) rfl _ rfl _ rfl
   have hl7 := (hdep ⟨7, .chain⟩ (by simp) rfl).1
   have hord : ∀ x ∈ ([(10, 7), (13, 10)] : List (Nat × Nat)), x.1 = 10 → listed.getD x.2 false = true := (by intro x hx he; simp only [List.mem_cons, List.not_mem_nil, or_false] at hx; rcases hx with rfl | rfl; all_goals first | (exact absurd he (by decide)) | assumption)
   have hst := hJ.st
   refine wp_st1 _ _ M (2 + s * 4 + 1) (.int .u64 x.ep) rfl q61 q57 hst.blk (by rw [stC_len]; omega) (by kernel_rfl) rfl (fun w9 hd ho => ?_)
   exact hK _ _ (hJ.nx hls hT rfl (by trivial) (S3S.s2 hst hs16 (by rw [hls]; decide) (by decide) (by decide) ho hd) hord)
  ·have q55 := hJ.iq hT (hdep ⟨2, .data⟩ (by simp) rfl) rfl _ rfl _ rfl
   clear hsz hdep hout hlat
   go_simp
   exact hK _ _ (hJ.na hls hT (S3S.plain hJ.st 11 (by decide)))
  ·have q62 := hJ.iq hT (hdep ⟨11, .data⟩ (by simp) rfl) rfl _ rfl _ rfl
   clear hsz hdep hout hlat
   go_simp
   exact hK _ _ (hJ.na hls hT (S3S.plain hJ.st 12 (by decide)))
  have q63 := hJ.is hT (hdep ⟨12, .data⟩ (by simp) rfl) rfl _ rfl _ rfl
  have hl10 := (hdep ⟨10, .chain⟩ (by simp) rfl).1
  have hord : ∀ x ∈ ([(10, 7), (13, 10)] : List (Nat × Nat)), x.1 = 13 → listed.getD x.2 false = true := (by intro x hx he; simp only [List.mem_cons, List.not_mem_nil, or_false] at hx; rcases hx with rfl | rfl; all_goals first | (exact absurd he (by decide)) | assumption)
  have hst := hJ.st
  refine wp_st1 _ _ M (2 + s * 4 + 2) (.int .i64 0) rfl q63 rfl hst.blk (by rw [stC_len]; omega) (by kernel_rfl) rfl (fun w9 hd ho => ?_)
  exact hK _ _ (hJ.nx hls hT rfl (by trivial) (S3S.s3 hst hs16 (by rw [hls]; decide) (by decide) (by decide) ho hd) hord)
 intro listed f w4 hall hJ
 have hst := hJ.st
 simp only [putAll, Act.put, List.setIfInBounds_toArray, List.set_cons_zero, List.set_cons_succ, Nat.zero_add, Nat.reduceAdd]
 have hb9 := hst.blk
 rw [hall 7 (by simp), hall 10 (by simp), hall 13 (by simp)] at hb9
 have HB9 : Hid (Bk w4 M 115 (stC m n (updF p s ⟨1, x.ep, 0⟩) (fun i => some (D i))).toArray) := Hi hb9
 have HMD : Hid (Md M w3 w4) := Hi hst.md
 clear hst hS0 hb9
 clear hJ hall hT
 have HS4 : Hid (SS w4 B9 M m n (updF p s ⟨1, x.ep, 0⟩) D r v ∧ Md M w w4) := Hi (by
  have kt : Kt [115] 0 w3 w4 := Kt.md HMD.out (Nat.zero_le _) HS.out.blk (List.mem_singleton.2 rfl)
  refine ⟨⟨HB9.out, HS.out.ts.kts kt (by decide) (by decide) (by decide), fun i hi => ?_, HS.out.mok⟩, (Ex.md B0.out HML.out).trans HMD.out⟩
  by_cases e : i = s
  ·subst e; rw [updF_same]; exact ⟨by unfold i64; simp only; omega, HX.out.ep, by unfold i64; simp only; omega⟩
  ·rw [updF_ne _ _ e]; exact HS.out.ok i hi)
 have A4 : Hid (KB9 w4 B x) := Hi (w39.out.bkm HMD.out)
 have HXI : Hid (Vp.In x.ad x.cap x.l w4 ∧ ∀ (i : Nat) (y : Vt), x.l[i]? = some y → VI w4 y) := Hi (HXM.out w3 w4 B0.out HMD.out)
 clear HB9 HMD
 go_wp2_with fail
 obtain ⟨nl, hnl⟩ : ∃ n, n = x.l.length := ⟨_, rfl⟩
 have HNL := Hi hnl
 clear hnl
 have hS0 : ∀ (listed : Array Bool) (f : Nat → Value), (∀ i, listed.getD i false = false) → SQ 6 7 w4 (fun z9 wp => ∃ wa, Ex w4 wa ∧ FillPost2 (D s) (r s) (v s) x.l wa (.returned z9) wp) listed f w4.drew := fun _ _ h0 => SQ.start h0 (Below.refl w4.heap.size w4).drew
 obtain ⟨T, hT⟩ : ∃ T : List (Value → Prop), T = [(fun zz => zz = .pointer (some ⟨M, 2 + s * 4, none⟩)), (fun zz => zz = .pointer (some ⟨M, 2 + s * 4, none⟩)), (fun zz => zz = .pointer (some ⟨M, 2 + s * 4 + 3, none⟩)), (fun zz => zz = .pointer (some ⟨D s, 0, none⟩)), (fun zz => zz = .pointer (some ⟨B, 46, none⟩)), (fun zz => zz = .slice x.ad nl x.cap), (fun _ => True), (fun _ => True)] := ⟨_, rfl⟩
 refine wp_region_gen (JS T ([(6, 3), (6, 5), (7, 6)] : List (Nat × Nat)) (fun lz fz wq => SQ 6 7 w4 (fun z9 wp => ∃ wa, Ex w4 wa ∧ FillPost2 (D s) (r s) (v s) x.l wa (.returned z9) wp) lz fz wq)) (by kernel_rfl) (by kernel_rfl) (by kernel_rfl) (fitB_spec (by kernel_rfl)) (fun listed f h => JS.start listed f h (hS0 listed f h)) ?_ ?_
 ·intro i o ho
  have hi : i < 8 := (Array.getElem?_eq_some_iff.1 ho).1
  have hi' : i = 0 ∨ i = 1 ∨ i = 2 ∨ i = 3 ∨ i = 4 ∨ i = 5 ∨ i = 6 ∨ i = 7 := by omega
  clear hi
  rcases hi' with rfl | rfl | rfl | rfl | rfl | rfl | rfl | rfl
  all_goals (simp only [List.getElem?_toArray, List.getElem?_cons_zero, List.getElem?_cons_succ, Option.some.injEq] at ho; subst ho; intro listed f a w5 hJ hsz hls hun hdep hout hlat; first | (rw [if_pos (by rfl)]; intro K hK) | skip)
  ·have q6 := hout 6 ob
   exact wp_mw _ rfl q6 (hK _ _ (hJ.nx hls hT rfl rfl (SQ.plain hJ.st (Ex.refl _) 0 (by decide)) nh))
  ·have q64 := hJ.iq hT (hdep ⟨0, .data⟩ (by simp) rfl) rfl _ rfl _ rfl
   clear hsz hdep hout hlat
   go_simp
   exact hK _ _ (hJ.na hls hT (SQ.plain hJ.st (Ex.refl _) 1 (by decide)))
  ·have q65 := hJ.iq hT (hdep ⟨1, .data⟩ (by simp) rfl) rfl _ rfl _ rfl
   clear hsz hdep hout hlat
   go_simp
   exact hK _ _ (hJ.na hls hT (SQ.plain hJ.st (Ex.refl _) 2 (by decide)))
  ·have q66 := hJ.iq hT (hdep ⟨2, .data⟩ (by simp) rfl) rfl _ rfl _ rfl
   have h6 : listed.getD 6 false = false := by
    cases hc : listed.getD 6 false with
    | false => rfl
    | true =>
     have hcx := hJ.ord (6, 3) (by simp) hc
     exact absurd hcx (by rw [hun]; decide)
   have hpre := hJ.st.ex h6
   have c6 := ((HS4.out.1.ext hpre).cells hs16).2.2.2
   clear hsz hdep hout hlat
   go_simp
   exact hK _ _ (hJ.nx hls hT rfl rfl (SQ.plain hJ.st (Ex.refl _) 3 (by decide)) nh)
  ·have q3 := hout 3 ob
   rw [gd9] at q3
   clear hsz hdep hout hlat
   go_simp
   exact hK _ _ (hJ.na hls hT (SQ.plain hJ.st (Ex.refl _) 4 (by decide)))
  ·have q68 := hJ.iq hT (hdep ⟨4, .data⟩ (by simp) rfl) rfl _ rfl _ rfl
   have h6 : listed.getD 6 false = false := by
    cases hc : listed.getD 6 false with
    | false => rfl
    | true =>
     have hcx := hJ.ord (6, 5) (by simp) hc
     exact absurd hcx (by rw [hun]; decide)
   have hpre := hJ.st.ex h6
   have c6 := (A4.out.ext hpre).cells.2.2.2.2
   rw [← HNL.out] at c6
   clear hsz hdep hout hlat
   go_simp
   exact hK _ _ (hJ.nx hls hT rfl rfl (SQ.plain hJ.st (Ex.refl _) 5 (by decide)) nh)
  ·have q67 := hJ.iq hT (hdep ⟨3, .data⟩ (by simp) rfl) rfl _ rfl _ rfl
   have q69 := hJ.iq hT (hdep ⟨5, .data⟩ (by simp) rfl) rfl _ rfl _ rfl
   have hl3 := (hdep ⟨3, .data⟩ (by simp) rfl).1
   have hl5 := (hdep ⟨5, .data⟩ (by simp) rfl).1
   have hord : ∀ x ∈ ([(6, 3), (6, 5), (7, 6)] : List (Nat × Nat)), x.1 = 6 → listed.getD x.2 false = true := (by intro x hx he; simp only [List.mem_cons, List.not_mem_nil, or_false] at hx; rcases hx with rfl | rfl | rfl; all_goals first | (exact absurd he (by decide)) | assumption)
   have h6 : listed.getD 6 false = false := by
    cases hc : listed.getD 6 false with
    | false => rfl
    | true =>
     exact absurd hc (by rw [hun]; decide)
   have hpre := hJ.st.ex h6
   have h7 : listed.getD 7 false = false := by
    cases hc : listed.getD 7 false with
    | false => rfl
    | true =>
     have hcx := hJ.ord (7, 6) (by simp) hc
     exact absurd hcx (by rw [hun]; decide)
   clear hsz hdep hout hlat
   go_simp
   have hp := tfill_any2 (D s) (r s) (v s) x.ad x.cap x.l HX.out.cap w5 ((HS4.out.1.ext hpre).ts.tb s hs16) (HXI.out.1.ext hpre) (fun i y hy => (HXI.out.2 i y hy).ext hpre)
   rw [← HNL.out] at hp
   refine hp.mono ?_
   intro e wq hq
   obtain ⟨_, _, rfl, _⟩ := fill_ss (HS4.out.1.ext hpre) hs16 hq HKR.out.1.2.2
   exact hK _ _ (hJ.nx hls hT rfl (by trivial) (SQ.turn (by rw [hls]; decide) (by decide) h7 ⟨w5, hpre, hq⟩) hord)
  have dd70 := hdep ⟨6, .data⟩ (by simp) rfl
  have q70 := dd70.2 _ rfl _ rfl
  have hl6 := (hdep ⟨6, .data⟩ (by simp) rfl).1
  have hord : ∀ x ∈ ([(6, 3), (6, 5), (7, 6)] : List (Nat × Nat)), x.1 = 7 → listed.getD x.2 false = true := (by intro x hx he; simp only [List.mem_cons, List.not_mem_nil, or_false] at hx; rcases hx with rfl | rfl | rfl; all_goals first | (exact absurd he (by decide)) | assumption)
  rw [gd9] at q70
  have hst9 := hJ.st
  clear hsz hdep hout hlat
  go_simp
  exact hK _ _ (hJ.nx hls hT rfl (by trivial) (SQ.asg hst9 (by decide)) hord)
 intro listed f w5 hall hJ
 have hst := hJ.st
 simp only [putAll, Act.put, List.setIfInBounds_toArray, List.set_cons_zero, List.set_cons_succ, Nat.zero_add, Nat.reduceAdd]
 obtain ⟨wp, ⟨wa, xa, hpp⟩, xp⟩ := hst.fin (hall 6 (by simp))
 rw [hst.val (hall 7 (by simp))]
 obtain ⟨rv2, ys, h1, h2, h3, h4, h5⟩ := fill_ss (HS4.out.1.ext xa) hs16 hpp HKR.out.1.2.2
 have h1 : f 6 = .int .i64 0 := by injection h1
 rw [h1]
 have HF : Hid (InF B9 M m n p D r v s ⟨1, x.ep, 0⟩ (x.l.map Vt.ct) w w5) := Hi ⟨rv2, ys, h2, h3.ext xp, ⟨wa, HS4.out.2.trans (Ex.md xa (Nat.le_of_lt HS4.out.1.blk.lt)), h4.trans (Ex.md xp (Nat.le_trans (Nat.le_of_lt ((HS4.out.1.ext xa).ts.tb s hs16).blk.lt) h4.size))⟩, fun g hg => Nat.le_trans (Nat.le_trans HS4.out.2.size (Below.size xa)) (h5 g hg)⟩
 clear hst hS0 h1 h2 h3 h4 h5 hpp xp xa
 clear hJ hall hT
 go_wp2_with fail
 go_ret
 exact Or.inr ⟨HKR.out.1, HKR.out.2, rfl, by rw [← HSN.out]; exact HF.out⟩
theorem apply_done (B9 M : Nat) (m n : Int) (p : Nat → Pa) (D : Nat → Nat) (r : Nat → Value) (v : Nat → List Vt) (x : Rk) (hk : x.kind = 4) (E1 : Int) (hE1 : E1 = if (p x.shard.toNat).role = 2 ∧ (p x.shard.toNat).ep = x.ep then 0 else 26) (w : World) (hx : x.In w) (h : SS w B9 M m n p D r v) : Calls Try.prog 17 #[.pointer (some ⟨M, 0, none⟩), x.V] w (AOPost x.doneR E1 (InF B9 M m n p D r v x.shard.toNat ⟨0, (p x.shard.toNat).ep, 0⟩ [] w) w) := by
 have HE1 := Hi hE1
 clear hE1
 obtain ⟨cs, hcs⟩ : ∃ cs, cs = x.C.toArray := ⟨_, rfl⟩
 have A0 : Hid (KB9 (w.alloc (.cells cs 39)) w.heap.size x) := Hi ⟨hx.v.ok, by rw [hcs]; exact Bk.new rfl _ _⟩
 have B0 : Hid (Ex w (w.alloc (.cells cs 39))) := Hi (Ex.alloc _ _)
 have HS := Hi (h.ext B0.out)
 rw [show (Calls Try.prog 17 #[.pointer (some ⟨M, 0, none⟩), x.V] w) = (Calls Try.prog 17 #[.pointer (some ⟨M, 0, none⟩), .agg cs] w) by rw [hcs]; rfl]
 have HX := Hi hx
 have HML := Hi (Nat.le_of_lt h.blk.lt)
 clear hcs hx h
 have HK := Hi hk
 go_enter Try.func17, Try.ntmps17
 go_wp2_with (first | ((with_reducible refine so0 ?_ ?_); (focus rfl)) | ((with_reducible refine so4 [112, 1000 + 112, 32, 39] ?_ ?_); (focus rfl)))
 (with_reducible refine ⟨?_⟩)
 change wpList _ _ _ _ _ (w.alloc (.cells cs 39))
 generalize hw1 : w.alloc (.cells cs 39) = w1 at *
 clear hw1
 obtain ⟨B, hB⟩ : ∃ B, B = w.heap.size := ⟨_, rfl⟩
 rw [← hB] at A0 ⊢
 have HB := Hi hB
 clear hB
 (with_reducible refine at_any ?_ ?_); (focus go_simp); refine fun K0 hK => ld_rk _ B x rfl rfl A0.out (hK _ _ ?_)
 clear hK
 go_wp2_with fail
 refine (check_done B9 M m n p D r v x HK.out E1 HE1.out w1 (HX.out.ext B0.out) HS.out).mono ?_
 rintro e w2 ⟨E, rfl, he1, he2, x2⟩
 replace A0 := Hi (A0.out.ext x2)
 replace HS := Hi (HS.out.ext x2)
 replace B0 := Hi (Ex.trans B0.out x2)
 have HE := Hi (And.intro he1 he2)
 clear he1 he2 x2
 by_cases hE0 : E = 0
 rotate_left
 ·skip
  go_wp2_with fail
  go_ret
  exact Or.inl ⟨fun h => hE0 ((HE.out.1 h.1).trans h.2), ⟨E, rfl, hE0, HE.out.1, HE.out.2⟩, B0.out⟩
 subst hE0
 have HKR : Hid (x.doneR ∧ E1 = 0) := Hi (by
  have hr : x.doneR := Classical.byContradiction (fun h => by have := HE.out.2 h; omega)
  exact ⟨hr, (HE.out.1 hr).symm⟩)
 obtain ⟨s, hs⟩ : ∃ s, s = x.shard.toNat := ⟨_, rfl⟩
 have HSH : Hid (x.shard = (s : Int)) := Hi (by have := HKR.out.1.1.1; rw [hs]; omega)
 have hs16 : s < 16 := by have h1 := HKR.out.1.1.1; have h2 := HKR.out.1.1.2.1; rw [hs]; omega
 have q0 : (0 : Int) ≤ (s : Int) := by omega
 have q1 : (s : Int) < 16 := by omega
 have HSN := Hi hs
 clear hs
 have c0 : w2.cell? ⟨B, 0, none⟩ = some (.int .i64 4) := by rw [← HK.out]; exact A0.out.cells.1
 have c1 : w2.cell? ⟨B, 1, none⟩ = some (.int .i64 (s : Int)) := by rw [← HSH.out]; exact A0.out.cells.2.1
 go_wp2_with fail
 clear c0 c1
 have hS0 : ∀ (listed : Array Bool) (f : Nat → Value), (∀ i, listed.getD i false = false) → Ex w2 w2.drew := fun _ _ _ => (Below.refl w2.heap.size w2).drew
 obtain ⟨T, hT⟩ : ∃ T : List (Value → Prop), T = [(fun zz => zz = .pointer (some ⟨M, 0, none⟩)), (fun zz => zz = .pointer (some ⟨B, 1, none⟩)), (fun zz => zz = .int .i64 (s : Int)), (fun zz => zz = .pointer (some ⟨M, 0, none⟩)), (fun zz => zz = .pointer (some ⟨M, 2, none⟩)), (fun zz => zz = .pointer (some ⟨M, 2 + s * 4, none⟩)), (fun zz => zz = .pointer (some ⟨M, 2 + s * 4, none⟩))] := ⟨_, rfl⟩
 refine wp_region_gen (JS T ([] : List (Nat × Nat)) (fun _ _ wq => Ex w2 wq)) (by kernel_rfl) (by kernel_rfl) (by kernel_rfl) (fitB_spec (by kernel_rfl)) (fun listed f h => JS.start listed f h (hS0 listed f h)) ?_ ?_
 ·intro i o ho
  have hi : i < 7 := (Array.getElem?_eq_some_iff.1 ho).1
  have hi' : i = 0 ∨ i = 1 ∨ i = 2 ∨ i = 3 ∨ i = 4 ∨ i = 5 ∨ i = 6 := by omega
  clear hi
  rcases hi' with rfl | rfl | rfl | rfl | rfl | rfl | rfl
  all_goals (simp only [List.getElem?_toArray, List.getElem?_cons_zero, List.getElem?_cons_succ, Option.some.injEq] at ho; subst ho; intro listed f a w3 hJ hsz hls hun hdep hout hlat; first | (rw [if_pos (by rfl)]; intro K hK) | skip)
  ·have q0 := hout 0 ob
   exact wp_mw _ rfl q0 (hK _ _ (hJ.nx hls hT rfl rfl hJ.st nh))
  ·have q3 := hout 3 ob
   rw [gd9] at q3
   clear hsz hdep hout hlat
   go_simp
   exact hK _ _ (hJ.na hls hT hJ.st)
  ·have q14 := hJ.iq hT (hdep ⟨1, .data⟩ (by simp) rfl) rfl _ rfl _ rfl
   have c9 : w3.cell? ⟨B, 1, none⟩ = some (.int .i64 (s : Int)) := by rw [← HSH.out]; exact (A0.out.ext hJ.st).cells.2.1
   clear hsz hdep hout hlat
   go_simp
   exact hK _ _ (hJ.nx hls hT rfl rfl hJ.st nh)
  ·have q13 := hJ.iq hT (hdep ⟨0, .data⟩ (by simp) rfl) rfl _ rfl _ rfl
   clear hsz hdep hout hlat
   go_simp
   exact hK _ _ (hJ.na hls hT hJ.st)
  ·have q16 := hJ.iq hT (hdep ⟨3, .data⟩ (by simp) rfl) rfl _ rfl _ rfl
   clear hsz hdep hout hlat
   go_simp
   exact hK _ _ (hJ.na hls hT hJ.st)
  ·have q17 := hJ.iq hT (hdep ⟨4, .data⟩ (by simp) rfl) rfl _ rfl _ rfl
   have q15 := hJ.iq hT (hdep ⟨2, .data⟩ (by simp) rfl) rfl _ rfl _ rfl
   clear hsz hdep hout hlat
   go_simp
   exact hK _ _ (hJ.na hls hT hJ.st)
  have q18 := hJ.iq hT (hdep ⟨5, .data⟩ (by simp) rfl) rfl _ rfl _ rfl
  clear hsz hdep hout hlat
  go_simp
  exact hK _ _ (hJ.na hls hT hJ.st)
 intro listed f w3 hall hJ
 have f6 := hJ.fa hT (hall 6 (by simp)) rfl
 have hst := hJ.st
 simp only [putAll, Act.put, List.setIfInBounds_toArray, List.set_cons_zero, List.set_cons_succ, Nat.zero_add, Nat.reduceAdd]
 have x3 : Ex w2 w3 := hst
 replace A0 := Hi (A0.out.ext x3)
 replace HS := Hi (HS.out.ext x3)
 replace B0 := Hi (Ex.trans B0.out x3)
 clear hst hS0 x3
 rw [f6]
 clear f6
 clear hJ hall hT
 have c0 : w3.cell? ⟨B, 0, none⟩ = some (.int .i64 4) := by rw [← HK.out]; exact A0.out.cells.1
 have w39 : Hid (KBM w3 B M x) := Hi ⟨A0.out, fun e => by have h1 := A0.out.2; have h2 := HS.out.blk; rw [e] at h1; unfold Bk at h1 h2; rw [h1] at h2; exact absurd (Obj.cells.inj (Option.some.inj h2)).2.1 (by decide)⟩
 go_wp2_with ((with_reducible refine so4 [1000 + 3] ?_ ?_); (focus rfl))
 clear c0
 refine at9 (by go_simp) fun K0 hK => wp_st1 _ _ M (2 + s * 4) (.int .i64 0) rfl rfl rfl HS.out.blk (by rw [stC_len]; omega) (by kernel_rfl) rfl (fun w9 hd ho => hK _ _ ?_)
 clear hK
 have hb9 : Bk w9 M 115 (stC m n (updF p s ⟨0, (p s).ep, (p s).tw⟩) (fun i => some (D i))).toArray := by rw [← stC_set m n p (fun i => some (D i)) ⟨0, (p s).ep, (p s).tw⟩ (.int .i64 0) hs16 (show 0 < 4 by decide) rfl]; exact hd
 have HB := Hi hb9
 have HM9 := Hi ho.md
 clear hd ho hb9
 go_wp2_with ((with_reducible refine so4 [1000 + 3] ?_ ?_); (focus rfl))
 refine at9 (by go_simp) fun K0 hK => wp_st1 _ _ M (2 + s * 4 + 2) (.int .i64 0) rfl rfl rfl HB.out (by rw [stC_len]; omega) (by kernel_rfl) rfl (fun w4 hd ho => hK _ _ ?_)
 clear hK
 have HB9 : Hid (Bk w4 M 115 (stC m n (updF p s ⟨0, (p s).ep, 0⟩) (fun i => some (D i))).toArray) := Hi (by rw [← updF_upd p s ⟨0, (p s).ep, (p s).tw⟩ ⟨0, (p s).ep, 0⟩, ← stC_set m n (updF p s ⟨0, (p s).ep, (p s).tw⟩) (fun i => some (D i)) ⟨0, (p s).ep, 0⟩ (.int .i64 0) hs16 (show 2 < 4 by decide) (by rw [updF_same]; rfl)]; exact hd)
 have HMD : Hid (Md M w3 w4) := Hi (HM9.out.trans ho.md)
 clear hd ho HB HM9
 have HS4 : Hid (SS w4 B9 M m n (updF p s ⟨0, (p s).ep, 0⟩) D r v ∧ Md M w w4) := Hi (by
  have kt : Kt [115] 0 w3 w4 := Kt.md HMD.out (Nat.zero_le _) HS.out.blk (List.mem_singleton.2 rfl)
  refine ⟨⟨HB9.out, HS.out.ts.kts kt (by decide) (by decide) (by decide), fun i hi => ?_, HS.out.mok⟩, (Ex.md B0.out HML.out).trans HMD.out⟩
  by_cases e : i = s
  ·subst e; rw [updF_same]; exact ⟨by unfold i64; simp only; omega, (HS.out.ok i hi).ep, by unfold i64; simp only; omega⟩
  ·rw [updF_ne _ _ e]; exact HS.out.ok i hi)
 have A4 : Hid (KB9 w4 B x) := Hi (w39.out.bkm HMD.out)
 clear HB9 HMD
 have c6 := (HS4.out.1.cells hs16).2.2.2
 go_wp2_with fail
 refine (tfill_any2 (D s) (r s) (v s) none 0 [] (by decide) w4 (HS4.out.1.ts.tb s hs16) ⟨Nat.le_refl _, fun _ => rfl, fun i y hy => by simp at hy, fun h => absurd h (Nat.lt_irrefl 0)⟩ (fun i y hy => by simp at hy)).mono ?_
 intro e w5 hq
 have hr0 : Rising [] := ⟨by decide, fun i y hy => by simp at hy, fun i hi => absurd hi (Nat.not_lt_zero _)⟩
 obtain ⟨rv2, ys, rfl, h2, h3, h4, h5⟩ := fill_ss HS4.out.1 hs16 hq hr0
 have HF : Hid (InF B9 M m n p D r v s ⟨0, (p s).ep, 0⟩ [] w w5) := Hi ⟨rv2, ys, h2, h3, ⟨w4, HS4.out.2, h4⟩, fun g hg => Nat.le_trans HS4.out.2.size (h5 g hg)⟩
 clear h2 h3 h4 h5 hq c6
 go_wp2_with fail
 go_ret
 exact Or.inr ⟨HKR.out.1, HKR.out.2, rfl, by rw [← HSN.out]; exact HF.out⟩
end Go.Proofs.Ytmjfnpmnhehnkaa
namespace Go.Proofs.Ytmjfnpmnhehnkaa
open Go.RowKit
def stP (p : Nat → Pa) (D : Nat → Option Nat) : List Value := (List.range 16).flatMap fun i => partC (p i) (D i)
theorem Try.sizeSP : (Try.prog.info? 113).map (·.size) = some 64 := by kernel_rfl
theorem extract_part (p : Nat → Pa) (D : Nat → Option Nat) {k : Nat} (hk : k < 16) : (stP p D).toArray.extract (k * 4) (k * 4 + 4) = (partC (p k) (D k)).toArray := by
  apply Array.ext'
  simp only [List.extract_toArray, List.extract_eq_take_drop]
  have e : k * 4 + 4 - k * 4 = 4 := by omega
  rw [e]
  apply List.ext_getElem?
  intro j
  rcases Nat.lt_or_ge j 4 with h | h
  · rw [List.getElem?_take, if_pos h, List.getElem?_drop]
    exact range_part p D 16 k j hk h
  rw [List.getElem?_eq_none (by rw [List.length_take]; omega), List.getElem?_eq_none (by show 4 ≤ j; exact h)]
section
variable {o : Oper} {a : Act} {w : World} {K : Act → World → Prop} {Q : Exit → Act → World → Prop}
theorem ld_sps {M : Nat} {m n : Int} {p : Nat → Pa} {D : Nat → Option Nat} (x : Operand) (ho : o.op = .load 113 x) (ha : a.eval x = .pointer (some ⟨M, 2, none⟩)) (h : Bk w M 115 (stC m n p D).toArray) (hk : K (a.put o.dst (.agg (stP p D).toArray)) w) : o.wp Try.prog a w K Q := by
  obtain ⟨dd, hd⟩ : ∃ d, Try.prog.underlying 113 = some d ∧ d.isRow = true := ⟨_, Try.underlying113, rfl⟩
  exact wp_ldp (C := stC m n p D) (stP p D) x M 2 dd ho ha h (by show (stP p D).take (stP p D).length = stP p D; exact List.take_length) hd.1 hd.2 (by rw [Try.sizeSP]; rfl) hk
theorem wp_ixs (x y : Operand) (p : Nat → Pa) (D : Nat → Option Nat) (k : Nat) (hk : k < 16) (ho : o.op = .index 113 x y) (hx : a.eval x = .agg (stP p D).toArray) (hy : a.eval y = .int .i64 k) (h : K (a.put o.dst (.agg (partC (p k) (D k)).toArray)) w) : o.wp Try.prog a w K Q := by
  obtain ⟨i, hi, hs⟩ := Option.map_eq_some_iff.1 Try.sizePart
  have q0 : (k : Int) < 16 := by omega
  have hx3 : List.take 4 (List.drop (k * 4) (stP p D)) = partC (p k) (D k) := by
    have h2 := congrArg Array.toList (extract_part p D hk)
    simp only [List.extract_toArray, List.extract_eq_take_drop] at h2
    rw [show k * 4 + 4 - k * 4 = 4 by omega] at h2
    exact h2
  have key : (Instr.index 113 (.agg (stP p D).toArray) (.int .i64 k)).run Try.prog w = .ok (.agg (partC (p k) (D k)).toArray) w := by
    simp [Instr.index, asIntOf, run_underlying Try.underlying113, run_underlying Try.underlying112, sizeOf, typeInfo, hi, hs, part, isAgg, q0]
    rw [if_pos hk, hx3]
  unfold Oper.wp
  simp [execOp, ho, hx, hy, key, Result.andThen]
  exact h
end
def lentL (p : Nat → Pa) (k : Nat) : List Nat := (List.range k).filter fun i => (p i).role = 2
theorem lentL_succ (p : Nat → Pa) (k : Nat) : lentL p (k + 1) = if (p k).role = 2 then lentL p k ++ [k] else lentL p k := by
  unfold lentL
  rw [List.range_succ, List.filter_append]
  split
  · rename_i h; simp [h]
  rename_i h; simp [h]
theorem lentL_len (p : Nat → Pa) (k : Nat) : (lentL p k).length ≤ k := by
  unfold lentL
  exact Nat.le_trans (List.length_filter_le _ _) (by rw [List.length_range]; exact Nat.le_refl k)
def intC (i : Nat) : List Value := [.int .i64 (i : Int)]
def LentPost (L : List Nat) (w : World) (e : Ending) (w' : World) : Prop := ∃ v, e = .returned v ∧ w'.ownsRow w.heap.size 3 1 v L.length (L.flatMap intC) ∧ Ex w w'
theorem lent_any (B M : Nat) (m n : Int) (p : Nat → Pa) (D : Nat → Nat) (r : Nat → Value) (v : Nat → List Vt) (w : World) (h : SS w B M m n p D r v) : Calls Try.prog 29 #[.pointer (some ⟨M, 0, none⟩)] w (LentPost (lentL p 16) w) := by
  have HS := Hi h
  clear h
  go_enter Try.func29, Try.ntmps29
  go_wp2_with (first | (with_reducible refine stop_ix ?_) | ((with_reducible refine so4 [112, 1000 + 112, 113] ?_ ?_); (focus rfl)) | (with_reducible refine stop_app ?_) | (with_reducible refine stop_bs ?_))
  refine at9 (by go_simp) fun K0 hK => ld_sps _ rfl rfl HS.out.blk (hK _ _ ?_)
  clear hK
  go_wp2_with (first | (with_reducible refine stop_ix ?_) | ((with_reducible refine so4 [112, 1000 + 112, 113] ?_ ?_); (focus rfl)) | (with_reducible refine stop_app ?_) | (with_reducible refine stop_bs ?_))
  go_loopw [3, 10] (fun v9 i wr => ∃ k : Nat, k ≤ 16 ∧ i = .int .i64 k ∧ Hid (wr.ownsRow w.heap.size 3 1 v9 (lentL p k).length ((lentL p k).flatMap intC)) ∧ Hid (Ex w wr)) (fun _ i _ => 16 - (intOf i).toNat)
  case atStart => exact ⟨0, by omega, rfl, Hi (World.ownsRow_nil _ _ _ _), Hi (Ex.refl _)⟩
  obtain ⟨k, hk, rfl, RW, BW⟩ := hrel
  by_cases hlt : k < 16
  rotate_left
  · obtain rfl : k = 16 := by omega
    go_wp2_with fail
    go_ret
    exact ⟨_, rfl, RW.out, BW.out⟩
  have q0 : (0 : Int) ≤ (k : Int) := by omega
  have q1 : (k : Int) < 16 := by omega
  go_wp2_with (first | (with_reducible refine stop_ix ?_) | ((with_reducible refine so4 [112, 1000 + 112, 113] ?_ ?_); (focus rfl)) | (with_reducible refine stop_app ?_) | (with_reducible refine stop_bs ?_))
  refine at9 (by go_simp) fun K0 hK => wp_ixs _ _ p (fun i => some (D i)) k hlt rfl rfl rfl (hK _ _ ?_)
  clear hK
  go_wp2_with (first | (with_reducible refine stop_ix ?_) | ((with_reducible refine so4 [112, 1000 + 112, 113] ?_ ?_); (focus rfl)) | (with_reducible refine stop_app ?_) | (with_reducible refine stop_bs ?_))
  refine at9 (by go_simp) fun K0 hK => st_pb _ _ wr.heap.size (p k) (some (D k)) rfl rfl rfl (Bk.new rfl _ _) (by rfl) (fun w3 hd ho => hK _ _ ?_)
  clear hK
  have x3 : Ex wr w3 := ho.below wr.heap.size (Nat.le_refl _) wr (Ex.alloc wr _)
  obtain ⟨g, hg⟩ : ∃ g, g = wr.heap.size := ⟨_, rfl⟩
  rw [← hg] at hd ⊢
  have c0 := hd.cells.1
  replace RW := Hi (x3.row RW.out)
  replace BW := Hi (Ex.trans BW.out x3)
  clear hd ho hg x3
  have HLS := Hi (lentL_succ p k)
  have hll := lentL_len p k
  obtain ⟨rl, hrl⟩ : ∃ x, x = (p k).role := ⟨_, rfl⟩
  rw [← hrl] at c0 HLS
  clear hrl
  by_cases h2 : rl = 2
  rotate_left
  · rw [if_neg h2] at HLS
    go_wp2_with fail
    go_roundw
    case rel => exact ⟨k + 1, by omega, by go_num, Hi (by rw [HLS.out]; exact RW.out), BW⟩
    case measure => simp [intOf]; omega
  subst h2
  rw [if_pos rfl] at HLS
  go_wp2_with (first | (with_reducible refine stop_ix ?_) | ((with_reducible refine so4 [112, 1000 + 112, 113] ?_ ?_); (focus rfl)) | (with_reducible refine stop_app ?_) | (with_reducible refine stop_bs ?_))
  (with_reducible refine ⟨?_⟩)
  go_wp2_with (first | (with_reducible refine stop_ix ?_) | ((with_reducible refine so4 [112, 1000 + 112, 113] ?_ ?_); (focus rfl)) | (with_reducible refine stop_app ?_))
  (with_reducible refine ⟨?_⟩)
  change wpList _ _ _ _ _ (w3.alloc (.cells (intC k).toArray 3))
  have xa : Ex w3 (w3.alloc (.cells (intC k).toArray 3)) := Ex.alloc _ _
  have NB := Hi (Bk.new (g := w3.heap.size) (w := w3) rfl 3 (intC k).toArray)
  replace RW := Hi (xa.row RW.out)
  replace BW := Hi (Ex.trans BW.out xa)
  generalize hw4 : (w3.alloc (.cells (intC k).toArray 3)) = w4 at *
  generalize w3.heap.size = g4 at *
  clear hw4 xa
  obtain ⟨adx, ex, nx, rx⟩ := Many.rd (n := 1) (sz := 1) ⟨g4, rfl, NB.out⟩ (show (intC k).length = 1 * 1 from rfl)
  cases ex
  have RX := Hi rx
  clear rx nx NB
  (with_reducible refine at_any ?_ ?_); (focus go_simp); refine fun K0 hK => wp_rd _ _ 61 3 (.int .i64 0) 1 8 rfl Try.underlying61 Try.infoI rfl (by decide) w.heap.size (lentL p k).length _ _ rfl RW.out BW.out.sz' _ 1 1 _ rfl RX.out (Nat.le_refl _) (fun h => by cases h) (fun u hu => by rw [List.mem_singleton.1 hu]; rfl) (by omega) (by omega) (fun v5 w5 r1 r2 => hK _ _ ?_)
  clear hK
  have RW2 : Hid (w5.ownsRow w.heap.size 3 1 v5 (lentL p (k + 1)).length ((lentL p (k + 1)).flatMap intC)) := Hi (by rw [HLS.out, List.length_append, List.flatMap_append, List.flatMap_singleton]; exact r1)
  replace BW := Hi (show Ex w w5 from Below.trans (show Below w.heap.size w _ from BW.out) r2.below)
  clear r1 r2 c0
  go_wp2_with fail
  go_roundw
  case rel => exact ⟨k + 1, by omega, by go_num, RW2, BW⟩
  case measure => simp [intOf]; omega
def r16 : Rk := ⟨4, 5, 0, 1, zeroVt, none, 0, []⟩
theorem built_r16 : Try.prog.built 39 [(0, .int .i64 4), (1, .int .i64 5), (3, .int .u64 1)] = some r16.C.toArray := by kernel_rfl
theorem r16_in (w : World) : r16.In w := ⟨by unfold r16 i64; simp only; omega, by unfold r16 i64; simp only; omega, by unfold r16 i64; simp only; omega, by unfold r16; simp only; omega, ⟨zeroVt_ok, nilB_in _ _⟩, ⟨Nat.le_refl _, fun _ => rfl, fun i x hx => by simp [r16] at hx, fun h => absurd h (Nat.lt_irrefl 0)⟩, by decide, fun i x hx => by simp [r16] at hx⟩
theorem r16_done : r16.doneR := ⟨⟨by decide, by decide, by decide, by decide, rfl⟩, rfl, rfl⟩
theorem lent0 : lentL (newP 0 1) 16 = [] := by decide
theorem known16 (w : World) : Calls Try.prog 19 #[] w fun e w' => e = .returned (.bool true) ∧ Ex w w' := by
  go_enter Try.func19, Try.ntmps19
  go_wp2_with fail
  refine (snew_any 0 1 w (by decide)).mono ?_
  rintro e w1 ⟨M, D, r, v, rfl, h1, h2, h3, h4⟩
  have HS := Hi h1
  have BW := Hi h4
  clear h1 h2 h3 h4
  go_wp2_with fail
  refine (snew_bad 1 1 w1 (by decide)).mono ?_
  rintro e w2 ⟨rfl, rfl⟩
  go_wp2_with fail
  refine (role_any w.heap.size M 0 1 (newP 0 1) D r v 5 (by decide) w1 HS.out).mono ?_
  rintro e w2 ⟨rfl, x2⟩
  replace HS := Hi (HS.out.ext x2)
  replace BW := Hi (Ex.trans BW.out x2)
  clear x2
  rw [show newP 0 1 5 = ⟨1, 1, 0⟩ from rfl]
  go_wp2_with ((with_reducible refine so4 [4000 + 39] ?_ ?_); (focus rfl))
  refine at9 (by go_simp) fun K0 hK => wp_build _ _ rfl _ built_r16 (hK _ _ ?_)
  clear hK
  go_wp2_with fail
  refine (apply_done_bad w.heap.size M 0 1 (newP 0 1) D r v r16 rfl (by decide) w2 (r16_in _) HS.out).mono ?_
  rintro e w3 ⟨E, rfl, e1, _, x3⟩
  have e1 := e1 r16_done
  subst e1
  replace HS := Hi (HS.out.ext x3)
  replace BW := Hi (Ex.trans BW.out x3)
  clear x3
  go_wp2_with fail
  refine (lent_any w.heap.size M 0 1 (newP 0 1) D r v w3 HS.out).mono ?_
  rintro e w4 ⟨vl, rfl, hr, x4⟩
  rw [lent0] at hr
  obtain ⟨ad, cap, rfl, _⟩ := own_rd hr
  have Z := Hi (Ex.trans BW.out x4)
  clear hr x4
  go_wp2_with fail
  go_ret
  exact ⟨rfl, Z.out⟩
end Go.Proofs.Ytmjfnpmnhehnkaa
namespace Go.Proofs.Ytmjfnpmnhehnkaa
open Go.RowKit Go.ChangeShapes Go.WideShapes Go.WideMaps Go.MapKept
open Go.ChangeMaps (setBlock heap_setBlock_same heap_setBlock_other)
theorem Try.arrId : ArrKey Try.prog 32 5 4 := ⟨Try.underlying32, by kernel_rfl, by kernel_rfl, by kernel_rfl⟩
theorem Try.tysz : ∃ m, Try.prog.types.size = m + 1 := ⟨Try.prog.types.size - 1, by
  have h : decide (0 < Try.prog.types.size) = true := by kernel_rfl
  have := of_decide_eq_true h
  omega⟩
theorem wf_u8 (a : UInt8) : (Lit.int .u8 (a.toNat : Int)).wf = true := by
  have := a.toNat_lt
  simp [Lit.wf, IntKind.min, IntKind.max, IntKind.signed, IntKind.bits]
  omega
theorem key4 {id : List UInt8} (h : id.length = 4) : ∃ l, keyOf Try.prog 32 (digV id) = some l := by
  obtain ⟨a, b, c, d, rfl⟩ := len4 h
  have hkt := ArrKey.keyType Try.arrId Try.tysz
  obtain ⟨m, hm⟩ := Try.tysz
  refine ⟨.string (keyBytes [.int .u8 (a.toNat : Int), .int .u8 (b.toNat : Int), .int .u8 (c.toNat : Int), .int .u8 (d.toNat : Int)]), ?_⟩
  show keyOf Try.prog 32 (.agg #[.int .u8 (a.toNat : Int), .int .u8 (b.toNat : Int), .int .u8 (c.toNat : Int), .int .u8 (d.toNat : Int)]) = _
  unfold keyOf
  simp only [Try.arrId.hu]
  rw [if_pos (by simp [hkt, Value.formed, Try.arrId.hu, Try.arrId.size]), hm]
  unfold Program.keyLits
  simp only [Try.arrId.hu, Value.cells]
  rw [if_pos (by rw [Try.arrId.size]; rfl), show List.range 4 = [0, 1, 2, 3] from rfl, List.mapM_cons, List.mapM_cons, List.mapM_cons, List.mapM_cons, List.mapM_nil]
  simp [Try.arrId.one, Program.keyLits, Try.underlying5, wf_u8]
structure MB (w : World) (b : Nat) (ps : List (List UInt8 × Vt)) : Prop where
  ex : ∃ (es : Array MapEntry) (clock : Nat), w.heap[b]? = some (.map es clock) ∧ es.toList.map (fun e => (e.key, e.val)) = ps.map (fun p => (digV p.1, p.2.V))
  ids : ∀ p, p ∈ ps → p.1.length = 4
  nod : (ps.map (·.1)).Nodup
theorem MB.ext {w w' : World} {b : Nat} {ps : List (List UInt8 × Vt)} (h : MB w b ps) (k : w'.heap[b]? = w.heap[b]?) : MB w' b ps := ⟨by
  obtain ⟨es, c, h1, h2⟩ := h.ex
  exact ⟨es, c, k.trans h1, h2⟩, h.ids, h.nod⟩
theorem MB.lt {w : World} {b : Nat} {ps : List (List UInt8 × Vt)} (h : MB w b ps) : b < w.heap.size := by
  obtain ⟨es, c, h1, _⟩ := h.ex
  exact (Array.getElem?_eq_some_iff.1 h1).1
theorem MB.size {w : World} {b : Nat} {ps : List (List UInt8 × Vt)} (h : MB w b ps) : ∃ (es : Array MapEntry) (clock : Nat), w.heap[b]? = some (.map es clock) ∧ es.size = ps.length := by
  obtain ⟨es, c, h1, h2⟩ := h.ex
  exact ⟨es, c, h1, by have := congrArg List.length h2; simpa using this⟩
section
variable {o : Oper} {a : Act} {w : World} {K : Act → World → Prop} {Q : Exit → Act → World → Prop}
end
section
variable {P : Program} {ops : Array Oper} {rest : List Oper} {d : Option Tmp} {t2 : TypeId} {pos : String} {af : Array Edge} {g : Option (Nat × Bool)} {a : Act} {w : World} {Q : Exit → Act → World → Prop}
end
end Go.Proofs.Ytmjfnpmnhehnkaa
