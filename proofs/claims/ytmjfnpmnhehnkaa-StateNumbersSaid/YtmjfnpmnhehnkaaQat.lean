/- Sl -/
import Derived.Test.YtmjfnpmnhehnkaaQas
set_option maxRecDepth 100000
set_option maxHeartbeats 16000000
namespace Go.Proofs.Ytmjfnpmnhehnkaa
open Go.RowKit
def qp (b1 b2 b3 : Bool) (a e t : Int) (q : Pa) : Pa := ⟨if b1 then a else q.role, if b2 then e else q.ep, if b3 then t else q.tw⟩
structure S3S (i1 i2 i3 : Nat) (w0 : World) (M : Nat) (m n : Int) (p : Nat → Pa) (D : Nat → Option Nat) (s : Nat) (a e t : Int) (l : Array Bool) (w : World) : Prop where
 blk : Bk w M 115 (stC m n (updF p s (qp (l.getD i1 false) (l.getD i2 false) (l.getD i3 false) a e t (p s))) D).toArray
 md : Md M w0 w
section
variable {i1 i2 i3 : Nat} {w0 w w' : World} {M : Nat} {m n : Int} {p : Nat → Pa} {D : Nat → Option Nat} {s : Nat} {a e t : Int} {l : Array Bool}
theorem S3S.start (h0 : ∀ i, l.getD i false = false) (hb : Bk w M 115 (stC m n p D).toArray) (hm : Md M w0 w) : S3S i1 i2 i3 w0 M m n p D s a e t l w := ⟨by rw [h0, h0, h0, show qp false false false a e t (p s) = p s from rfl, updF_id]; exact hb, hm⟩
theorem S3S.plain (h : S3S i1 i2 i3 w0 M m n p D s a e t l w) (i : Nat) (hi : i ≠ i1 ∧ i ≠ i2 ∧ i ≠ i3) : S3S i1 i2 i3 w0 M m n p D s a e t (l.setIfInBounds i true) w := ⟨by rw [gset hi.1 false, gset hi.2.1 false, gset hi.2.2 false]; exact h.blk, h.md⟩
theorem updF_upd {α : Type} (f : Nat → α) (k : Nat) (x y : α) : updF (updF f k x) k y = updF f k y := by
 funext i; unfold updF; split <;> rfl
theorem S3S.s1 (h : S3S i1 i2 i3 w0 M m n p D s a e t l w) (hs : s < 16) (hl : i1 < l.size) (h12 : i1 ≠ i2) (h13 : i1 ≠ i3) (ho : Only M w w') (hb : Bk w' M 115 ((stC m n (updF p s (qp (l.getD i1 false) (l.getD i2 false) (l.getD i3 false) a e t (p s))) D).set (2 + s * 4 + 0) (.int .i64 a)).toArray) : S3S i1 i2 i3 w0 M m n p D s a e t (l.setIfInBounds i1 true) w' := by
 refine ⟨?_, h.md.trans ho.md⟩
 rw [set_new hl, gset h12 false, gset h13 false]
 rw [stC_set m n _ D (qp true (l.getD i2 false) (l.getD i3 false) a e t (p s)) (.int .i64 a) hs (show 0 < 4 by decide) (by rw [updF_same]; rfl), updF_upd] at hb
 exact hb
theorem S3S.s2 (h : S3S i1 i2 i3 w0 M m n p D s a e t l w) (hs : s < 16) (hl : i2 < l.size) (h12 : i2 ≠ i1) (h13 : i2 ≠ i3) (ho : Only M w w') (hb : Bk w' M 115 ((stC m n (updF p s (qp (l.getD i1 false) (l.getD i2 false) (l.getD i3 false) a e t (p s))) D).set (2 + s * 4 + 1) (.int .u64 e)).toArray) : S3S i1 i2 i3 w0 M m n p D s a e t (l.setIfInBounds i2 true) w' := by
 refine ⟨?_, h.md.trans ho.md⟩
 rw [set_new hl, gset h12 false, gset h13 false]
 rw [stC_set m n _ D (qp (l.getD i1 false) true (l.getD i3 false) a e t (p s)) (.int .u64 e) hs (show 1 < 4 by decide) (by rw [updF_same]; rfl), updF_upd] at hb
 exact hb
theorem S3S.s3 (h : S3S i1 i2 i3 w0 M m n p D s a e t l w) (hs : s < 16) (hl : i3 < l.size) (h12 : i3 ≠ i1) (h13 : i3 ≠ i2) (ho : Only M w w') (hb : Bk w' M 115 ((stC m n (updF p s (qp (l.getD i1 false) (l.getD i2 false) (l.getD i3 false) a e t (p s))) D).set (2 + s * 4 + 2) (.int .i64 t)).toArray) : S3S i1 i2 i3 w0 M m n p D s a e t (l.setIfInBounds i3 true) w' := by
 refine ⟨?_, h.md.trans ho.md⟩
 rw [set_new hl, gset h12 false, gset h13 false]
 rw [stC_set m n _ D (qp (l.getD i1 false) (l.getD i2 false) true a e t (p s)) (.int .i64 t) hs (show 2 < 4 by decide) (by rw [updF_same]; rfl), updF_upd] at hb
 exact hb
end
def AOPost (P : Prop) (E1 : Int) (F : World → Prop) (w : World) (e : Ending) (w' : World) : Prop :=
 (¬ (P ∧ E1 = 0) ∧ (∃ E : Int, e = .returned (.int .i64 E) ∧ E ≠ 0 ∧ (P → E = E1) ∧ (¬ P → E = 1)) ∧ Ex w w') ∨ (P ∧ E1 = 0 ∧ e = .returned (.int .i64 0) ∧ F w')
theorem KB9.bkm {w w' : World} {M g : Nat} {x : Rk} (h : KB9 w g x ∧ g ≠ M) (k : Md M w w') : KB9 w' g x := ⟨h.1.1, k.bk h.1.2 h.2⟩
def KBM (w : World) (g M : Nat) (x : Rk) : Prop := KB9 w g x ∧ g ≠ M
theorem KBM.bkm {w w' : World} {M g : Nat} {x : Rk} (h : KBM w g M x) (k : Md M w w') : KB9 w' g x := ⟨h.1.1, k.bk h.1.2 h.2⟩
theorem apply_out (B9 M : Nat) (m n : Int) (p : Nat → Pa) (D : Nat → Nat) (r : Nat → Value) (v : Nat → List Vt) (x : Rk) (hk : x.kind = 2) (E1 : Int) (hE1 : E1 = outE m n (p x.shard.toNat) x.tw x.ep) (w : World) (hx : x.In w) (h : SS w B9 M m n p D r v) : Calls Try.prog 17 #[.pointer (some ⟨M, 0, none⟩), x.V] w (AOPost x.outR E1 (fun w' => SS w' B9 M m n (updF p x.shard.toNat ⟨2, x.ep, x.tw⟩) D r v ∧ Md M w w') w) := by
 have HE1 := Hi hE1
 clear hE1
 obtain ⟨cs, hcs⟩ : ∃ cs, cs = x.C.toArray := ⟨_, rfl⟩
 have A0 : Hid (KB9 (w.alloc (.cells cs 39)) w.heap.size x) := Hi ⟨hx.v.ok, by rw [hcs]; exact Bk.new rfl _ _⟩
 have B0 : Hid (Ex w (w.alloc (.cells cs 39))) := Hi (Ex.alloc _ _)
 have HS := Hi (h.ext B0.out)
 rw [show (Calls Try.prog 17 #[.pointer (some ⟨M, 0, none⟩), x.V] w) = (Calls Try.prog 17 #[.pointer (some ⟨M, 0, none⟩), .agg cs] w) by rw [hcs]; rfl]
 have HX := Hi hx
 have HML := Hi (Nat.le_of_lt h.blk.lt)
 clear hcs hx h
 have HK := Hi hk
 go_enter Try.func17, Try.ntmps17
 go_wp2_with (first | ((with_reducible refine so0 ?_ ?_); (focus rfl)) | ((with_reducible refine so4 [112, 1000 + 112, 32, 39] ?_ ?_); (focus rfl)))
 (with_reducible refine ⟨?_⟩)
 change wpList _ _ _ _ _ (w.alloc (.cells cs 39))
 generalize hw1 : w.alloc (.cells cs 39) = w1 at *
 clear hw1
 obtain ⟨B, hB⟩ : ∃ B, B = w.heap.size := ⟨_, rfl⟩
 rw [← hB] at A0 ⊢
 have HB := Hi hB
 clear hB
 (with_reducible refine at_any ?_ ?_); (focus go_simp); refine fun K0 hK => ld_rk _ B x rfl rfl A0.out (hK _ _ ?_)
 clear hK
 go_wp2_with fail
 refine (check_out B9 M m n p D r v x HK.out E1 HE1.out w1 (HX.out.ext B0.out) HS.out).mono ?_
 rintro e w2 ⟨E, rfl, he1, he2, x2⟩
 replace A0 := Hi (A0.out.ext x2)
 replace HS := Hi (HS.out.ext x2)
 replace B0 := Hi (Ex.trans B0.out x2)
 have HE := Hi (And.intro he1 he2)
 clear he1 he2 x2
 by_cases hE0 : E = 0
 rotate_left
 ·skip
  go_wp2_with fail
  go_ret
  exact Or.inl ⟨fun h => hE0 ((HE.out.1 h.1).trans h.2), ⟨E, rfl, hE0, HE.out.1, HE.out.2⟩, B0.out⟩
 subst hE0
 have HKR : Hid (x.outR ∧ E1 = 0) := Hi (by
  have hr : x.outR := Classical.byContradiction (fun h => by have := HE.out.2 h; omega)
  exact ⟨hr, (HE.out.1 hr).symm⟩)
 obtain ⟨s, hs⟩ : ∃ s, s = x.shard.toNat := ⟨_, rfl⟩
 have HSH : Hid (x.shard = (s : Int)) := Hi (by have := HKR.out.1.1.1; rw [hs]; omega)
 have hs16 : s < 16 := by have h1 := HKR.out.1.1.1; have h2 := HKR.out.1.1.2.1; rw [hs]; omega
 have q0 : (0 : Int) ≤ (s : Int) := by omega
 have q1 : (s : Int) < 16 := by omega
 have HSN := Hi hs
 clear hs
 have c0 : w2.cell? ⟨B, 0, none⟩ = some (.int .i64 2) := by rw [← HK.out]; exact A0.out.cells.1
 have c1 : w2.cell? ⟨B, 1, none⟩ = some (.int .i64 (s : Int)) := by rw [← HSH.out]; exact A0.out.cells.2.1
 go_wp2_with fail
 clear c0 c1
 have hS0 : ∀ (listed : Array Bool) (f : Nat → Value), (∀ i, listed.getD i false = false) → Ex w2 w2.drew := fun _ _ _ => (Below.refl w2.heap.size w2).drew
 obtain ⟨T, hT⟩ : ∃ T : List (Value → Prop), T = [(fun zz => zz = .pointer (some ⟨M, 0, none⟩)), (fun zz => zz = .pointer (some ⟨B, 1, none⟩)), (fun zz => zz = .int .i64 (s : Int)), (fun zz => zz = .pointer (some ⟨M, 0, none⟩)), (fun zz => zz = .pointer (some ⟨M, 2, none⟩)), (fun zz => zz = .pointer (some ⟨M, 2 + s * 4, none⟩)), (fun zz => zz = .pointer (some ⟨M, 2 + s * 4, none⟩))] := ⟨_, rfl⟩
 refine wp_region_gen (JS T ([] : List (Nat × Nat)) (fun _ _ wq => Ex w2 wq)) (by kernel_rfl) (by kernel_rfl) (by kernel_rfl) (fitB_spec (by kernel_rfl)) (fun listed f h => JS.start listed f h (hS0 listed f h)) ?_ ?_
 ·intro i o ho
  have hi : i < 7 := (Array.getElem?_eq_some_iff.1 ho).1
  have hi' : i = 0 ∨ i = 1 ∨ i = 2 ∨ i = 3 ∨ i = 4 ∨ i = 5 ∨ i = 6 := by omega
  clear hi
  rcases hi' with rfl | rfl | rfl | rfl | rfl | rfl | rfl
  all_goals (simp only [List.getElem?_toArray, List.getElem?_cons_zero, List.getElem?_cons_succ, Option.some.injEq] at ho; subst ho; intro listed f a w3 hJ hsz hls hun hdep hout hlat; first | (rw [if_pos (by rfl)]; intro K hK) | skip)
  ·have q0 := hout 0 ob
   exact wp_mw _ rfl q0 (hK _ _ (hJ.nx hls hT rfl rfl hJ.st nh))
  ·have q3 := hout 3 ob
   rw [gd9] at q3
   clear hsz hdep hout hlat
   go_simp
   exact hK _ _ (hJ.na hls hT hJ.st)
  ·have q14 := hJ.iq hT (hdep ⟨1, .data⟩ (by simp) rfl) rfl _ rfl _ rfl
   have c9 : w3.cell? ⟨B, 1, none⟩ = some (.int .i64 (s : Int)) := by rw [← HSH.out]; exact (A0.out.ext hJ.st).cells.2.1
   clear hsz hdep hout hlat
   go_simp
   exact hK _ _ (hJ.nx hls hT rfl rfl hJ.st nh)
  ·have q13 := hJ.iq hT (hdep ⟨0, .data⟩ (by simp) rfl) rfl _ rfl _ rfl
   clear hsz hdep hout hlat
   go_simp
   exact hK _ _ (hJ.na hls hT hJ.st)
  ·have q16 := hJ.iq hT (hdep ⟨3, .data⟩ (by simp) rfl) rfl _ rfl _ rfl
   clear hsz hdep hout hlat
   go_simp
   exact hK _ _ (hJ.na hls hT hJ.st)
  ·have q17 := hJ.iq hT (hdep ⟨4, .data⟩ (by simp) rfl) rfl _ rfl _ rfl
   have q15 := hJ.iq hT (hdep ⟨2, .data⟩ (by simp) rfl) rfl _ rfl _ rfl
   clear hsz hdep hout hlat
   go_simp
   exact hK _ _ (hJ.na hls hT hJ.st)
  have q18 := hJ.iq hT (hdep ⟨5, .data⟩ (by simp) rfl) rfl _ rfl _ rfl
  clear hsz hdep hout hlat
  go_simp
  exact hK _ _ (hJ.na hls hT hJ.st)
 intro listed f w3 hall hJ
 have f6 := hJ.fa hT (hall 6 (by simp)) rfl
 have hst := hJ.st
 simp only [putAll, Act.put, List.setIfInBounds_toArray, List.set_cons_zero, List.set_cons_succ, Nat.zero_add, Nat.reduceAdd]
 have x3 : Ex w2 w3 := hst
 replace A0 := Hi (A0.out.ext x3)
 replace HS := Hi (HS.out.ext x3)
 replace B0 := Hi (Ex.trans B0.out x3)
 clear hst hS0 x3
 rw [f6]
 clear f6
 clear hJ hall hT
 have c0 : w3.cell? ⟨B, 0, none⟩ = some (.int .i64 2) := by rw [← HK.out]; exact A0.out.cells.1
 have w39 : Hid (KBM w3 B M x) := Hi ⟨A0.out, fun e => by have h1 := A0.out.2; have h2 := HS.out.blk; rw [e] at h1; unfold Bk at h1 h2; rw [h1] at h2; exact absurd (Obj.cells.inj (Option.some.inj h2)).2.1 (by decide)⟩
 go_wp2_with fail
 clear c0
 have hS0 : ∀ (listed : Array Bool) (f : Nat → Value), (∀ i, listed.getD i false = false) → S3S 9 12 15 w3 M m n p (fun i => some (D i)) s 2 x.ep x.tw listed w3.drew := fun _ _ h0 => S3S.start h0 (HS.out.blk.ext (Below.refl w3.heap.size w3).drew) (Ex.md (show Ex w3 w3.drew from (Below.refl w3.heap.size w3).drew) (Nat.le_of_lt HS.out.blk.lt))
 obtain ⟨T, hT⟩ : ∃ T : List (Value → Prop), T = [(fun zz => zz = .pointer (some ⟨M, 2 + s * 4, none⟩)), (fun zz => zz = .pointer (some ⟨M, 2 + s * 4, none⟩)), (fun zz => zz = .pointer (some ⟨M, 2 + s * 4, none⟩)), (fun zz => zz = .pointer (some ⟨B, 3, none⟩)), (fun zz => zz = .int .u64 x.ep), (fun zz => zz = .pointer (some ⟨B, 2, none⟩)), (fun zz => zz = .int .i64 x.tw), (fun zz => zz = .pointer (some ⟨M, 2 + s * 4, none⟩)), (fun zz => zz = .pointer (some ⟨M, 2 + s * 4, none⟩)), (fun _ => True), (fun zz => zz = .pointer (some ⟨M, 2 + s * 4, none⟩)), (fun zz => zz = .pointer (some ⟨M, 2 + s * 4 + 1, none⟩)), (fun _ => True), (fun zz => zz = .pointer (some ⟨M, 2 + s * 4, none⟩)), (fun zz => zz = .pointer (some ⟨M, 2 + s * 4 + 2, none⟩)), (fun _ => True)] := ⟨_, rfl⟩
 refine wp_region_gen (JS T ([(12, 9), (15, 12)] : List (Nat × Nat)) (fun lz _ wq => S3S 9 12 15 w3 M m n p (fun i => some (D i)) s 2 x.ep x.tw lz wq)) (by kernel_rfl) (by kernel_rfl) (by kernel_rfl) (fitB_spec (by kernel_rfl)) (fun listed f h => JS.start listed f h (hS0 listed f h)) ?_ ?_
 ·intro i o ho
  have hi : i < 16 := (Array.getElem?_eq_some_iff.1 ho).1
  have hi' : i = 0 ∨ i = 1 ∨ i = 2 ∨ i = 3 ∨ i = 4 ∨ i = 5 ∨ i = 6 ∨ i = 7 ∨ i = 8 ∨ i = 9 ∨ i = 10 ∨ i = 11 ∨ i = 12 ∨ i = 13 ∨ i = 14 ∨ i = 15 := by omega
  clear hi
  rcases hi' with rfl | rfl | rfl | rfl | rfl | rfl | rfl | rfl | rfl | rfl | rfl | rfl | rfl | rfl | rfl | rfl
  all_goals (simp only [List.getElem?_toArray, List.getElem?_cons_zero, List.getElem?_cons_succ, Option.some.injEq] at ho; subst ho; intro listed f a w4 hJ hsz hls hun hdep hout hlat; first | (rw [if_pos (by rfl)]; intro K hK) | skip)
  ·have q6 := hout 6 ob
   exact wp_mw _ rfl q6 (hK _ _ (hJ.nx hls hT rfl rfl (S3S.plain hJ.st 0 (by decide)) nh))
  ·have q6 := hout 6 ob
   exact wp_mw _ rfl q6 (hK _ _ (hJ.nx hls hT rfl rfl (S3S.plain hJ.st 1 (by decide)) nh))
  ·have q6 := hout 6 ob
   exact wp_mw _ rfl q6 (hK _ _ (hJ.nx hls hT rfl rfl (S3S.plain hJ.st 2 (by decide)) nh))
  ·have q3 := hout 3 ob
   rw [gd9] at q3
   clear hsz hdep hout hlat
   go_simp
   exact hK _ _ (hJ.na hls hT (S3S.plain hJ.st 3 (by decide)))
  ·have q41 := hJ.iq hT (hdep ⟨3, .data⟩ (by simp) rfl) rfl _ rfl _ rfl
   have c9 := (w39.out.bkm hJ.st.md).cells.2.2.2.1
   clear hsz hdep hout hlat
   go_simp
   exact hK _ _ (hJ.nx hls hT rfl rfl (S3S.plain hJ.st 4 (by decide)) nh)
  ·have q3 := hout 3 ob
   rw [gd9] at q3
   clear hsz hdep hout hlat
   go_simp
   exact hK _ _ (hJ.na hls hT (S3S.plain hJ.st 5 (by decide)))
  ·have q43 := hJ.iq hT (hdep ⟨5, .data⟩ (by simp) rfl) rfl _ rfl _ rfl
   have c9 := (w39.out.bkm hJ.st.md).cells.2.2.1
   clear hsz hdep hout hlat
   go_simp
   exact hK _ _ (hJ.nx hls hT rfl rfl (S3S.plain hJ.st 6 (by decide)) nh)
  ·have q38 := hJ.iq hT (hdep ⟨0, .data⟩ (by simp) rfl) rfl _ rfl _ rfl
   clear hsz hdep hout hlat
   go_simp
   exact hK _ _ (hJ.na hls hT (S3S.plain hJ.st 7 (by decide)))
  ·have q45 := hJ.iq hT (hdep ⟨7, .data⟩ (by simp) rfl) rfl _ rfl _ rfl
   clear hsz hdep hout hlat
   go_simp
   exact hK _ _ (hJ.na hls hT (S3S.plain hJ.st 8 (by decide)))
  ·have q46 := hJ.is hT (hdep ⟨8, .data⟩ (by simp) rfl) rfl _ rfl _ rfl
   have hst := hJ.st
   refine wp_st1 _ _ M (2 + s * 4 + 0) (.int .i64 2) rfl q46 rfl hst.blk (by rw [stC_len]; omega) (by kernel_rfl) rfl (fun w9 hd ho => ?_)
   exact hK _ _ (hJ.nx hls hT rfl (by trivial) (S3S.s1 hst hs16 (by rw [hls]; decide) (by decide) (by decide) ho hd) nh)
  ·have q39 := hJ.iq hT (hdep ⟨1, .data⟩ (by simp) rfl) rfl _ rfl _ rfl
   clear hsz hdep hout hlat
   go_simp
   exact hK _ _ (hJ.na hls hT (S3S.plain hJ.st 10 (by decide)))
  ·have q47 := hJ.iq hT (hdep ⟨10, .data⟩ (by simp) rfl) rfl _ rfl _ rfl
   clear hsz hdep hout hlat
   go_simp
   exact hK _ _ (hJ.na hls hT (S3S.plain hJ.st 11 (by decide)))
  ·have q48 := hJ.is hT (hdep ⟨11, .data⟩ (by simp) rfl) rfl _ rfl _ rfl
   have q42 := hJ.is hT (hdep ⟨4, .data⟩ (by simp) rfl) rfl _ rfl _ rfl
   have hl9 := (hdep ⟨9, .chain⟩ (by simp) rfl).1
   have hord : ∀ x ∈ ([(12, 9), (15, 12)] : List (Nat × Nat)), x.1 = 12 → listed.getD x.2 false = true := (by intro x hx he; simp only [List.mem_cons, List.not_mem_nil, or_false] at hx; rcases hx with rfl | rfl; all_goals first | (exact absurd he (by decide)) | assumption)
   have hst := hJ.st
   refine wp_st1 _ _ M (2 + s * 4 + 1) (.int .u64 x.ep) rfl q48 q42 hst.blk (by rw [stC_len]; omega) (by kernel_rfl) rfl (fun w9 hd ho => ?_)
   exact hK _ _ (hJ.nx hls hT rfl (by trivial) (S3S.s2 hst hs16 (by rw [hls]; decide) (by decide) (by decide) ho hd) hord)
  ·have q40 := hJ.iq hT (hdep ⟨2, .data⟩ (by simp) rfl) rfl _ rfl _ rfl
   clear hsz hdep hout hlat
   go_simp
   exact hK _ _ (hJ.na hls hT (S3S.plain hJ.st 13 (by decide)))
  ·have q49 := hJ.iq hT (hdep ⟨13, .data⟩ (by simp) rfl) rfl _ rfl _ rfl
   clear hsz hdep hout hlat
   go_simp
   exact hK _ _ (hJ.na hls hT (S3S.plain hJ.st 14 (by decide)))
  have q50 := hJ.is hT (hdep ⟨14, .data⟩ (by simp) rfl) rfl _ rfl _ rfl
  have q44 := hJ.is hT (hdep ⟨6, .data⟩ (by simp) rfl) rfl _ rfl _ rfl
  have hl12 := (hdep ⟨12, .chain⟩ (by simp) rfl).1
  have hord : ∀ x ∈ ([(12, 9), (15, 12)] : List (Nat × Nat)), x.1 = 15 → listed.getD x.2 false = true := (by intro x hx he; simp only [List.mem_cons, List.not_mem_nil, or_false] at hx; rcases hx with rfl | rfl; all_goals first | (exact absurd he (by decide)) | assumption)
  have hst := hJ.st
  refine wp_st1 _ _ M (2 + s * 4 + 2) (.int .i64 x.tw) rfl q50 q44 hst.blk (by rw [stC_len]; omega) (by kernel_rfl) rfl (fun w9 hd ho => ?_)
  exact hK _ _ (hJ.nx hls hT rfl (by trivial) (S3S.s3 hst hs16 (by rw [hls]; decide) (by decide) (by decide) ho hd) hord)
 intro listed f w4 hall hJ
 have hst := hJ.st
 simp only [putAll, Act.put, List.setIfInBounds_toArray, List.set_cons_zero, List.set_cons_succ, Nat.zero_add, Nat.reduceAdd]
 have hb9 := hst.blk
 rw [hall 9 (by simp), hall 12 (by simp), hall 15 (by simp)] at hb9
 have HB9 : Hid (Bk w4 M 115 (stC m n (updF p s ⟨2, x.ep, x.tw⟩) (fun i => some (D i))).toArray) := Hi hb9
 have HMD : Hid (Md M w3 w4) := Hi hst.md
 clear hst hS0 hb9
 clear hJ hall hT
 have HF : Hid (SS w4 B9 M m n (updF p s ⟨2, x.ep, x.tw⟩) D r v ∧ Md M w w4) := Hi (by
  have kt : Kt [115] 0 w3 w4 := Kt.md HMD.out (Nat.zero_le _) HS.out.blk (List.mem_singleton.2 rfl)
  refine ⟨⟨HB9.out, HS.out.ts.kts kt (by decide) (by decide) (by decide), fun i hi => ?_, HS.out.mok⟩, (Ex.md B0.out HML.out).trans HMD.out⟩
  by_cases e : i = s
  ·subst e; rw [updF_same]; exact ⟨by unfold i64; simp only; omega, HX.out.ep, HX.out.tw⟩
  ·rw [updF_ne _ _ e]; exact HS.out.ok i hi)
 clear HB9 HMD
 go_wp2_with fail
 go_ret
 exact Or.inr ⟨HKR.out.1, HKR.out.2, rfl, by rw [← HSN.out]; exact HF.out⟩
end Go.Proofs.Ytmjfnpmnhehnkaa
