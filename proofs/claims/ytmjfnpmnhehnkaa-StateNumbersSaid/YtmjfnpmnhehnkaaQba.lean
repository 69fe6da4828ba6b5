/- Tj, Ul, St, Su, Wa, We, Wf -/
import Derived.Test.YtmjfnpmnhehnkaaQaz
import Derived.Test.YtmjfnpmnhehnkaaQaz
set_option maxRecDepth 100000
set_option maxHeartbeats 16000000
namespace Go.Proofs.Ytmjfnpmnhehnkaa
open Go.RowKit
theorem ct_take_succ {xs ys : List Vt} {k : Nat} {x y : Vt} (h : (xs.take k).map Vt.ct = (ys.take k).map Vt.ct) (hx : xs[k]? = some x) (hy : ys[k]? = some y) (e : x.ct = y.ct) : (xs.take (k + 1)).map Vt.ct = (ys.take (k + 1)).map Vt.ct := by
 rw [List.take_add_one, List.take_add_one, List.map_append, List.map_append, h, hx, hy]
 simp [e]
theorem ct_ne {xs ys : List Vt} {k : Nat} {x y : Vt} (hx : xs[k]? = some x) (hy : ys[k]? = some y) (e : x.ct ≠ y.ct) : xs.map Vt.ct ≠ ys.map Vt.ct := fun h => e (by
 have h1 : (xs.map Vt.ct)[k]? = (ys.map Vt.ct)[k]? := by rw [h]
 rw [List.getElem?_map, List.getElem?_map, hx, hy] at h1
 simpa using h1)
theorem rvs_any (ad1 ad2 : Option Addr) (cap1 cap2 : Nat) (xs ys : List Vt) (c1 : cap1 ≤ 9223372036854775807) (c2 : cap2 ≤ 9223372036854775807) (w : World) (h1 : Vp.In ad1 cap1 xs w) (h2 : Vp.In ad2 cap2 ys w) (v1 : ∀ (i : Nat) (x : Vt), xs[i]? = some x → VI w x) (v2 : ∀ (i : Nat) (x : Vt), ys[i]? = some x → VI w x) :
  Calls Try.prog 30 #[.slice ad1 xs.length cap1, .slice ad2 ys.length cap2] w fun e w' => e = .returned (.bool (decide (xs.map Vt.ct = ys.map Vt.ct))) ∧ Ex w w' := by
 have H1 := Hi h1
 have H2 := Hi h2
 have V1 := Hi v1
 have V2 := Hi v2
 obtain ⟨n, hn⟩ : ∃ n, n = xs.length := ⟨_, rfl⟩
 obtain ⟨m, hm⟩ : ∃ m, m = ys.length := ⟨_, rfl⟩
 have hnb : n ≤ 9223372036854775807 := by rw [hn]; exact Nat.le_trans h1.len c1
 have hmb : m ≤ 9223372036854775807 := by rw [hm]; exact Nat.le_trans h2.len c2
 rw [← hn, ← hm]
 have HN := Hi hn
 have HM := Hi hm
 obtain ⟨br, hbr⟩ : ∃ b, b = decide (xs.map Vt.ct = ys.map Vt.ct) := ⟨_, rfl⟩
 rw [← hbr]
 have HBR := Hi hbr
 clear h1 h2 v1 v2 hn hm hbr c1 c2
 by_cases hnm : n = m
 rotate_left
 ·have hi : ¬ (n : Int) = (m : Int) := by omega
  go_enter Try.func30, Try.ntmps30
  go_wp2_with fail
  go_ret
  exact ⟨by rw [HBR.out, decide_eq_false (fun h => hnm (by rw [HN.out, HM.out]; have := congrArg List.length h; simpa using this))]; rfl, Ex.refl _⟩
 obtain rfl := hnm
 go_enter Try.func30, Try.ntmps30
 go_wp2_with (first | ((with_reducible refine so4 [36, 1000+36, 32, 1000+32, 4000+36] ?_ ?_); (focus rfl)) | (with_reducible refine stop_bs (t := 37) ?_) | (with_reducible refine stop_app ?_))
 go_loopw [5] (fun i wr => ∃ k : Nat, k ≤ n ∧ i = .int .i64 k ∧ Hid ((xs.take k).map Vt.ct = (ys.take k).map Vt.ct) ∧ Hid (Ex w wr)) (fun i _ => n - (intOf i).toNat)
 case atStart => exact ⟨0, by omega, rfl, Hi rfl, Hi (Ex.refl _)⟩
 obtain ⟨k, hk, rfl, HG, BW⟩ := hrel
 by_cases hlt : k < n
 rotate_left
 ·obtain rfl : k = n := by omega
  have q1 : ¬ (k : Int) < (k : Int) := by omega
  go_wp2_with fail
  go_ret
  exact ⟨by rw [HBR.out, decide_eq_true (by have := HG.out; rw [List.take_of_length_le (by rw [← HN.out]; exact Nat.le_refl _), List.take_of_length_le (by rw [← HM.out]; exact Nat.le_refl _)] at this; exact this)]; rfl, BW.out⟩
 have q0 : (0 : Int) ≤ (k : Int) := by omega
 have q1 : (k : Int) < (n : Int) := by omega
 obtain ⟨x, hx⟩ : ∃ z, xs[k]? = some z := ⟨_, List.getElem?_eq_getElem (by rw [← HN.out]; exact hlt)⟩
 obtain ⟨a1, o1, rfl, ha1, hr1⟩ := (H1.out.ext BW.out).read (by rw [← HN.out]; omega)
 have R1 := Hi (hr1 k x hx)
 have I1 := Hi (V1.out k x hx)
 have K1 := Hi hx
 have A1 := Hi ha1
 clear hr1 ha1 hx
 obtain ⟨y, hy⟩ : ∃ z, ys[k]? = some z := ⟨_, List.getElem?_eq_getElem (by rw [← HM.out]; exact hlt)⟩
 obtain ⟨a2, o2, rfl, ha2, hr2⟩ := (H2.out.ext BW.out).read (by rw [← HM.out]; omega)
 have R2 := Hi (hr2 k y hy)
 have I2 := Hi (V2.out k y hy)
 have K2 := Hi hy
 have A2 := Hi ha2
 clear hr2 ha2 hy
 obtain ⟨b, hb⟩ : ∃ b, b = decide (x.ct = y.ct) := ⟨_, rfl⟩
 have HB := Hi hb
 clear hb
 go_wp2_with (first | ((with_reducible refine so4 [36, 1000+36, 32, 1000+32, 4000+36] ?_ ?_); (focus rfl)) | (with_reducible refine stop_bs (t := 37) ?_) | (with_reducible refine stop_app ?_))
 obtain ⟨T, hT⟩ : ∃ T : List (Rw wr.heap.size), T = [.is (.slice (some ⟨a1, o1, none⟩) n cap1), .is (.int .i64 k), .is (.pointer (some ⟨a1, o1 + k * 42, none⟩)), .is (x.V), .is (.slice (some ⟨a2, o2, none⟩) n cap2), .is (.int .i64 k), .is (.pointer (some ⟨a2, o2 + k * 42, none⟩)), .is (y.V), .is (.bool b), .is (.bool (!b))] := ⟨_, rfl⟩
 have HTY : T.map Rw.tys = ([[], [], [], [], [], [], [], [], [], []] : List (List Nat)) := by rw [hT]; rfl
 refine wp_region_gen (JW wr.heap.size wr [0] T ([[], [], [], [], [], [], [], [], [], []] : List (List Nat)) ([none, none, none, none, none, none, none, none, none, none] : List (Option Nat)) ([] : List (Nat × Nat)) 100000) (by kernel_rfl) (by kernel_rfl) (by kernel_rfl) (fitB_spec (by kernel_rfl)) (fun listed f h => JW.start (Nat.le_refl _) listed f h) ?_ ?_
 ·intro i o ho
  have hi : i < 10 := (Array.getElem?_eq_some_iff.1 ho).1
  have hi' : i = 0 ∨ i = 1 ∨ i = 2 ∨ i = 3 ∨ i = 4 ∨ i = 5 ∨ i = 6 ∨ i = 7 ∨ i = 8 ∨ i = 9 := by omega
  clear hi
  rcases hi' with rfl | rfl | rfl | rfl | rfl | rfl | rfl | rfl | rfl | rfl
  all_goals (simp only [List.getElem?_toArray, List.getElem?_cons_zero, List.getElem?_cons_succ, Option.some.injEq] at ho; subst ho; intro listed f a w2 hJ hsz hls hun hdep hout hlat; first | (rw [if_pos (by rfl)]; intro K hK) | skip)
  ·have q0 := hout 0 ob
   exact wp_mw _ rfl q0 (hK _ _ (hJ.pl HTY hls hT rfl))
  ·have q5 := hout 5 ob
   exact wp_mw _ rfl q5 (hK _ _ (hJ.pl HTY hls hT rfl))
  ·have q17 := hJ.iv hT (hdep ⟨0, .data⟩ (by simp) rfl) rfl rfl _ rfl _ rfl
   have q18 := hJ.iv hT (hdep ⟨1, .data⟩ (by simp) rfl) rfl rfl _ rfl _ rfl
   clear hsz hdep hout hlat
   go_simp
   exact hK _ _ (hJ.pl HTY hls hT rfl)
  ·have q19 := hJ.iw hT (hdep ⟨2, .data⟩ (by simp) rfl) rfl rfl _ rfl _ rfl
   exact ld_vr (.tmp 19) a1 (o1 + k * 42) x I1.out.ok rfl q19 (fun j u hu => (Below.cell (p := ⟨a1, o1 + k * 42 + j, none⟩) hJ.ext.below A1.out).trans (R1.out j u hu)) (hK _ _ (hJ.pl HTY hls hT rfl))
  ·have q1 := hout 1 ob
   exact wp_mw _ rfl q1 (hK _ _ (hJ.pl HTY hls hT rfl))
  ·have q5 := hout 5 ob
   exact wp_mw _ rfl q5 (hK _ _ (hJ.pl HTY hls hT rfl))
  ·have q21 := hJ.iv hT (hdep ⟨4, .data⟩ (by simp) rfl) rfl rfl _ rfl _ rfl
   have q22 := hJ.iv hT (hdep ⟨5, .data⟩ (by simp) rfl) rfl rfl _ rfl _ rfl
   clear hsz hdep hout hlat
   go_simp
   exact hK _ _ (hJ.pl HTY hls hT rfl)
  ·have q23 := hJ.iw hT (hdep ⟨6, .data⟩ (by simp) rfl) rfl rfl _ rfl _ rfl
   exact ld_vr (.tmp 23) a2 (o2 + k * 42) y I2.out.ok rfl q23 (fun j u hu => (Below.cell (p := ⟨a2, o2 + k * 42 + j, none⟩) hJ.ext.below A2.out).trans (R2.out j u hu)) (hK _ _ (hJ.pl HTY hls hT rfl))
  ·have q20 := hJ.iv hT (hdep ⟨3, .data⟩ (by simp) rfl) rfl rfl _ rfl _ rfl
   have q24 := hJ.iv hT (hdep ⟨7, .data⟩ (by simp) rfl) rfl rfl _ rfl _ rfl
   clear hsz hdep hout hlat
   go_simp
   refine (rsame_any x y w2 (I1.out.ext (Ex.trans BW.out hJ.ext.below)) (I2.out.ext (Ex.trans BW.out hJ.ext.below))).mono ?_
   rintro e w3 ⟨rfl, x3⟩
   exact hK _ _ (hJ.plain HTY (by rw [hls]; decide) x3 (by rw [hT]; exact congrArg Value.bool HB.out.symm) nh)
  have q25 := hJ.iv hT (hdep ⟨8, .data⟩ (by simp) rfl) rfl rfl _ rfl _ rfl
  clear hsz hdep hout hlat
  go_simp
  exact hK _ _ (hJ.pl HTY hls hT rfl)
 intro listed f w2 hall hJ
 have f9 : f 9 = .bool (!b) := by
  have h := hJ.vals 9 (hall 9 (by simp)) no_c
  rw [hT] at h; exact h
 have xk := hJ.ext
 simp only [putAll, Act.put, List.setIfInBounds_toArray, List.set_cons_zero, List.set_cons_succ, Nat.zero_add, Nat.reduceAdd]
 rw [f9]
 clear f9
 clear hJ hall hT HTY
 replace BW := Hi (Ex.trans BW.out (show Ex wr w2 from xk.below))
 clear xk
 cases b
 ·skip
  go_wp2_with fail
  go_ret
  exact ⟨by rw [HBR.out, decide_eq_false (ct_ne K1.out K2.out (of_decide_eq_false HB.out.symm))]; rfl, BW.out⟩
 skip
 go_wp2_with (first | ((with_reducible refine so4 [36, 1000+36, 32, 1000+32, 4000+36] ?_ ?_); (focus rfl)) | (with_reducible refine stop_bs (t := 37) ?_) | (with_reducible refine stop_app ?_))
 go_roundw
 case rel => exact ⟨k + 1, by omega, by first | rfl | go_num, Hi (ct_take_succ HG.out K1.out K2.out (of_decide_eq_true HB.out.symm)), BW⟩
 case measure => simp [intOf]; omega
end Go.Proofs.Ytmjfnpmnhehnkaa
namespace Go.Proofs.Ytmjfnpmnhehnkaa
open Go.RowKit
theorem VRow.other {w w' : World} {D' B : Nat} {v rv' : Value} {xs vs' : List Vt} (h : VRow w B v xs) (h' : TB w D' rv' vs') (k : Tc D' rv'.ownBlock w w') (hr : Djn v rv') : VRow w' B v xs := by
 have hrow := h'.row.blk
 have keep : ∀ x, TVN w x → TVN w' x := fun x hx => by
  rcases hrow with e | ⟨gb, e, _, _, hb⟩
  ·exact hx.tc (gb := 0) k h'.blk (Or.inl e)
  ·exact hx.tc k h'.blk (Or.inr ⟨e, hb⟩)
 refine ⟨⟨h.row.1, h.row.2.imp id fun ⟨g, cap, cur, hv, hB, hg, hrest⟩ => ⟨g, cap, cur, hv, hB, ?_, hrest⟩⟩, fun i x hx => keep x (h.ins i x hx)⟩
 exact (show Bk w' g 36 cur from k.bk hg (fun e => by subst e; exact h'.D_ne hg rfl) (fun e => hr g (by rw [hv]; rfl) e.symm))
theorem VRow.inn3 {w : World} {B : Nat} {v : Value} {xs : List Vt} (h : VRow w B v xs) : ∃ ad cap, v = .slice ad xs.length cap ∧ Vp.In ad cap xs w ∧ cap ≤ 9223372036854775807 := by
 obtain ⟨ad, cap, e, hin⟩ := h.inn
 obtain ⟨ad2, cap2, e2, _, _, hc, _⟩ := own_rd h.row
 rw [e] at e2; cases e2
 exact ⟨ad, cap, e, hin, hc⟩
end Go.Proofs.Ytmjfnpmnhehnkaa
namespace Go.Proofs.Ytmjfnpmnhehnkaa
open Go.RowKit
structure LO (w0 wb w : World) (B : Nat) (D : Nat → Nat) (r : Nat → Value) (v : Nat → List Vt) (B2 M2 : Nat) (m2 : Int) (p2 : Nat → Pa) (D2 : Nat → Nat) (r2 : Nat → Value) (v2 : Nat → List Vt) (tv : Value) (us : List Vt) : Prop where
  ts : TS w B 16 D r v
  s2 : SS w B2 M2 m2 2 p2 D2 r2 v2
  ap : Apart D r D2 r2
  row : VRow w w0.heap.size tv us
  d1 : ∀ i, i < 16 → Djn tv (r i)
  d2 : ∀ i, i < 16 → Djn tv (r2 i)
  ex : Ex w0 w
  lo : w0.heap.size ≤ B
  kp : ∀ (g : Nat) (cs : Array Value), Bk wb g 42 cs → Bk w g 42 cs
section
variable {w0 wb w w' : World} {B M s : Nat} {m : Int} {p p' : Nat → Pa} {D : Nat → Nat} {r : Nat → Value} {v : Nat → List Vt} {B2 M2 : Nat} {m2 : Int} {p2 : Nat → Pa} {D2 : Nat → Nat} {r2 : Nat → Value} {v2 : Nat → List Vt} {tv r' : Value} {us ls : List Vt}
theorem LO.md (h : LO w0 wb w B D r v B2 M2 m2 p2 D2 r2 v2 tv us) {cs : Array Value} (hb : Bk w M 115 cs) (k : Md M w w') (hne : M ≠ M2) (hlo : w0.heap.size ≤ M) : LO w0 wb w' B D r v B2 M2 m2 p2 D2 r2 v2 tv us := by
  have kt : Kt [115] w0.heap.size w w' := Kt.md k hlo hb (List.mem_singleton.2 rfl)
  exact ⟨h.ts.kts kt (by decide) (by decide) (by decide), ⟨k.bk h.s2.blk (Ne.symm hne), h.s2.ts.kts kt (by decide) (by decide) (by decide), h.s2.ok, h.s2.mok⟩, h.ap, ⟨kt.row h.row.row (by decide), fun i x hx => (h.row.ins i x hx).kt kt (by decide)⟩, h.d1, h.d2, k.ex h.ex hlo, h.lo, fun g cs hg => kt.bk (h.kp g cs hg) (by decide)⟩
theorem LO.fresh (h : LO w0 wb w B D r v B2 M2 m2 p2 D2 r2 v2 tv us) (hs : s < 16) (hl : Lies w (r s) r') : Apart D (updF r s r') D2 r2 ∧ ∀ i, i < 16 → Djn tv (updF r s r' i) := by
  refine ⟨⟨h.ap.dd, fun i j hi hj => ?_⟩, fun i hi => ?_⟩
  · by_cases e : i = s
    · subst e
      rw [updF_same]
      intro g hg hg2
      rcases hl with h1 | h1
      · exact h.ap.rr i j hi hj g (h1 ▸ hg) hg2
      have h3 := h1 g hg
      have h4 := ((h.s2.ts.tb j hj).row.row.lt g hg2).2
      omega
    rw [updF_ne _ _ e]; exact h.ap.rr i j hi hj
  by_cases e : i = s
  · subst e
    rw [updF_same]
    intro g hg hg2
    rcases hl with h1 | h1
    · exact h.d1 i hi g hg (h1 ▸ hg2)
    have h3 := h1 g hg2
    have h4 := (h.row.row.lt g hg).2
    omega
  rw [updF_ne _ _ e]; exact h.d1 i hi
theorem LO.tc (h : LO w0 wb w B D r v B2 M2 m2 p2 D2 r2 v2 tv us) (hs : s < 16) (k : Tc (D s) (r s).ownBlock w w') (ht : TS w' B 16 D (updF r s r') (updF v s ls)) (hf : Apart D (updF r s r') D2 r2 ∧ ∀ i, i < 16 → Djn tv (updF r s r' i)) : LO w0 wb w' B D (updF r s r') (updF v s ls) B2 M2 m2 p2 D2 r2 v2 tv us := by
  have hb := h.ts.tb s hs
  exact ⟨ht, ⟨k.kt9 hb h.s2.blk (by decide) (by decide), ⟨fun i hi => (h.s2.ts.tb i hi).other hb k (fun e => h.ap.dd s i hs hi e.symm) (h.ap.rr s i hs hi).symm, h.s2.ts.lo, h.s2.ts.dd, h.s2.ts.rr⟩, h.s2.ok, h.s2.mok⟩, hf.1, h.row.other hb k (h.d1 s hs), hf.2, h.d2, k.ex9 hb h.ex (Nat.le_trans h.lo (h.ts.lo s hs)), h.lo, fun g cs hg => k.kt9 hb (h.kp g cs hg) (by decide) (by decide)⟩
end
structure LV (w0 wb w : World) (B M : Nat) (m : Int) (p : Nat → Pa) (D : Nat → Nat) (r : Nat → Value) (v : Nat → List Vt) (B2 M2 : Nat) (m2 : Int) (p2 : Nat → Pa) (D2 : Nat → Nat) (r2 : Nat → Value) (v2 : Nat → List Vt) (tv : Value) (us : List Vt) : Prop where
  o : LO w0 wb w B D r v B2 M2 m2 p2 D2 r2 v2 tv us
  s1 : SS w B M m 2 p D r v
  ne : M ≠ M2
  lo : w0.heap.size ≤ M ∧ w0.heap.size ≤ M2 ∧ w0.heap.size ≤ B2
section
variable {w0 wb w w' : World} {B M s : Nat} {m : Int} {p p' : Nat → Pa} {D : Nat → Nat} {r : Nat → Value} {v : Nat → List Vt} {B2 M2 : Nat} {m2 : Int} {p2 : Nat → Pa} {D2 : Nat → Nat} {r2 : Nat → Value} {v2 : Nat → List Vt} {tv r' : Value} {us ls : List Vt}
theorem LV.ext (h : LV w0 wb w B M m p D r v B2 M2 m2 p2 D2 r2 v2 tv us) (k : Ex w w') : LV w0 wb w' B M m p D r v B2 M2 m2 p2 D2 r2 v2 tv us :=
  ⟨⟨h.o.ts.ext k, h.o.s2.ext k, h.o.ap, h.o.row.ext k, h.o.d1, h.o.d2, Ex.trans h.o.ex k, h.o.lo, fun g cs hg => (h.o.kp g cs hg).ext k⟩, h.s1.ext k, h.ne, h.lo⟩
theorem LV.base (h : LV w0 wb w B M m p D r v B2 M2 m2 p2 D2 r2 v2 tv us) : LV w0 w w B M m p D r v B2 M2 m2 p2 D2 r2 v2 tv us :=
  ⟨⟨h.o.ts, h.o.s2, h.o.ap, h.o.row, h.o.d1, h.o.d2, h.o.ex, h.o.lo, fun _ _ hg => hg⟩, h.s1, h.ne, h.lo⟩
theorem LV.md (h : LV w0 wb w B M m p D r v B2 M2 m2 p2 D2 r2 v2 tv us) (k : Md M w w') (hs : SS w' B M m 2 p' D r v) : LV w0 wb w' B M m p' D r v B2 M2 m2 p2 D2 r2 v2 tv us :=
  ⟨h.o.md h.s1.blk k h.ne h.lo.1, hs, h.ne, h.lo⟩
theorem LV.tc (h : LV w0 wb w B M m p D r v B2 M2 m2 p2 D2 r2 v2 tv us) (hs : s < 16) (k : Tc (D s) (r s).ownBlock w w') (h1 : SS w' B M m 2 p' D (updF r s r') (updF v s ls)) (hl : Lies w (r s) r') : LV w0 wb w' B M m p' D (updF r s r') (updF v s ls) B2 M2 m2 p2 D2 r2 v2 tv us :=
  ⟨h.o.tc hs k h1.ts (h.o.fresh hs hl), h1, h.ne, h.lo⟩
end
end Go.Proofs.Ytmjfnpmnhehnkaa
namespace Go.Proofs.Ytmjfnpmnhehnkaa
open Go.RowKit
theorem mem_ct {ys us : List Vt} (h : ys.map Vt.ct = us.map Vt.ct) {y : Vt} (hy : y ∈ ys) : ∃ u, u ∈ us ∧ y.ct = u.ct := by
  have h1 : y.ct ∈ us.map Vt.ct := by rw [← h]; exact List.mem_map_of_mem hy
  obtain ⟨u, hu, e⟩ := List.mem_map.1 h1
  exact ⟨u, hu, e.symm⟩
structure UsOK (s : Int) (us : List Vt) : Prop where
  ris : Rising us
  sh : AllOf us s
theorem UsOK.of {s : Int} {ys us : List Vt} (h : ys.map Vt.ct = us.map Vt.ct) (k : UsOK s us) : UsOK s ys := by
  have hl : ys.length = us.length := by have := congrArg List.length h; simpa using this
  refine ⟨⟨by rw [hl]; exact k.ris.1, fun i x hx => ?_, fun i hi => ?_⟩, fun x hx => ?_⟩
  · obtain ⟨u, hu, e⟩ := mem_ct h (List.mem_of_getElem? hx)
    obtain ⟨j, hj, e2⟩ := List.getElem_of_mem hu
    rw [e]; exact k.ris.2.1 j u (by rw [List.getElem?_eq_getElem hj, e2])
  · rw [idF_ct h, idF_ct h]; exact k.ris.2.2 i (by rw [← hl]; exact hi)
  obtain ⟨u, hu, e⟩ := mem_ct h hx
  rw [show x.id = u.id from congrArg Vc.id e]; exact k.sh u hu
def rkO (s t e : Int) : Rk := ⟨2, s, t, e, zeroVt, none, 0, []⟩
def rkI (s e : Int) (ad : Option Addr) (cap : Nat) (l : List Vt) : Rk := ⟨3, s, 0, e, zeroVt, ad, cap, l⟩
def rkD (s e : Int) : Rk := ⟨4, s, 0, e, zeroVt, none, 0, []⟩
theorem built_rkO (s t e : Int) : Try.prog.built 39 [(0, .int .i64 2), (1, .int .i64 s), (2, .int .i64 t), (3, .int .u64 e)] = some (rkO s t e).C.toArray := by kernel_rfl
theorem built_rkI (s e : Int) (ad : Option Addr) (cap : Nat) (l : List Vt) : Try.prog.built 39 [(0, .int .i64 3), (1, .int .i64 s), (3, .int .u64 e), (5, .slice ad l.length cap)] = some (rkI s e ad cap l).C.toArray := by kernel_rfl
theorem built_rkD (s e : Int) : Try.prog.built 39 [(0, .int .i64 4), (1, .int .i64 s), (3, .int .u64 e)] = some (rkD s e).C.toArray := by kernel_rfl
end Go.Proofs.Ytmjfnpmnhehnkaa
namespace Go.Proofs.Ytmjfnpmnhehnkaa
open Go.RowKit
end Go.Proofs.Ytmjfnpmnhehnkaa
namespace Go.Proofs.Ytmjfnpmnhehnkaa
open Go.RowKit
theorem Rc.eq_iff (a b : Rc) : a = b ↔ (a.why = b.why ∧ a.id = b.id ∧ a.gen = b.gen ∧ a.left = b.left ∧ a.sec = b.sec ∧ a.client = b.client ∧ a.num = b.num) := by
 cases a; cases b; simp
instance : DecidableEq Rc := fun a b => decidable_of_iff _ (Rc.eq_iff a b).symm
end Go.Proofs.Ytmjfnpmnhehnkaa
namespace Go.Proofs.Ytmjfnpmnhehnkaa
open Go.RowKit
theorem ld_vid9 {o : Oper} {a : Act} {w : World} {K : Act → World → Prop} {Q : Exit → Act → World → Prop} (y : Operand) (g off : Nat) (x : Vt) (hx : x.Ok) (ho : o.op = .load 32 y) (ha : a.eval y = .pointer (some ⟨g, off, none⟩)) (h : w.rangeAt g off x.C) (hk : K (a.put o.dst (digV x.id)) w) : o.wp Try.prog a w K Q := by
 obtain ⟨dd, hd⟩ : ∃ d, Try.prog.underlying 32 = some d ∧ d.isRow = true := ⟨_, Try.underlying32, rfl⟩
 refine wp_load_mid 32 y ho g off ha (Lib.byteCells x.id) dd (fun j u hu => h j u ?_) hd.1 hd.2 (by rw [Try.sizeId, byteCells_len, hx.idN]) hk
 have hj : j < (Lib.byteCells x.id).length := (List.getElem?_eq_some_iff.1 hu).1
 unfold Vt.C
 simp only [List.append_assoc]
 rw [List.getElem?_append_left hj]; exact hu
def SK (w0 w : World) (p : Pt) : Prop := p.In w w0.heap.size ∨ PN w 0 p
theorem SK.inn {w0 w : World} {p : Pt} (h : SK w0 w p) (hs : w0.heap.size ≤ w.heap.size) : p.In w w.heap.size := by
 rcases h with h | h
 ·exact h.more hs
 exact h.1
theorem SK.ext {w0 w w' : World} {p : Pt} (h : SK w0 w p) (hs : w0.heap.size ≤ w.heap.size) (k : Ex w w') : SK w0 w' p := by
 rcases h with h | h
 ·exact Or.inl (h.keep (k.mono hs))
 exact Or.inr (h.ext k)
theorem SK.kt {S : List Nat} {w0 w w' : World} {p : Pt} (h : SK w0 w p) (k : Kt S w0.heap.size w w') (hu : 5 ∉ S) : SK w0 w' p := by
 rcases h with h | h
 ·exact Or.inl (h.keep k.below)
 exact Or.inr (h.kt k hu)
theorem SK.tc {w0 w w' : World} {p : Pt} {D : Nat} {rv : Value} {vs : List Vt} (h : SK w0 w p) (k : Tc D rv.ownBlock w w') (ht : TB w D rv vs) (hs : w0.heap.size ≤ w.heap.size) (lo : w0.heap.size ≤ D) : SK w0 w' p := by
 rcases h with h | h
 ·refine Or.inl (h.keep ⟨k.os, k.tape, k.output, k.size, fun i hi => k.block i (by omega) (by omega) (fun e => ?_)⟩)
  have := (ht.row.row.lt i e.symm).1
  omega
 exact Or.inr (h.tc9 k ht)
structure PX (w0 w : World) (x : Vt) : Prop where
 ok : x.Ok
 sec : SK w0 w x.sec
 len : x.sec.l.length ≤ 64
structure PB (w0 w : World) (P : Nat) (rv : Value) (xs : List Vt) : Prop where
 blk : Bk w P 134 #[rv]
 row : w.ownsRow w0.heap.size 36 42 rv xs.length (xs.flatMap Vt.C)
 ins : ∀ (i : Nat) (x : Vt), xs[i]? = some x → PX w0 w x
 lo : w0.heap.size ≤ P
 sz : w0.heap.size ≤ w.heap.size
theorem PB.ext {w0 w w' : World} {P : Nat} {rv : Value} {xs : List Vt} (h : PB w0 w P rv xs) (k : Ex w w') : PB w0 w' P rv xs :=
 ⟨h.blk.ext k, k.row h.row, fun i x hx => ⟨(h.ins i x hx).ok, (h.ins i x hx).sec.ext h.sz k, (h.ins i x hx).len⟩, h.lo, Nat.le_trans h.sz (Below.size k)⟩
theorem PB.inn {w0 w : World} {P : Nat} {rv : Value} {xs : List Vt} (h : PB w0 w P rv xs) : ∃ ad cap, rv = .slice ad xs.length cap ∧ Vp.In ad cap xs w ∧ cap ≤ 9223372036854775807 := by
 have hok : ∀ (i : Nat) (x : Vt), xs[i]? = some x → x.Ok := fun i x hx => (h.ins i x hx).ok
 obtain ⟨ad2, cap2, e2, _, _, hc9, _⟩ := own_rd h.row
 obtain ⟨_, ⟨h1, ⟨hv, h0⟩ | ⟨g, cap, cur, rfl, hb, hh, hc, hm, hs, ht⟩⟩, _⟩ := h
 ·exact ⟨none, 0, by rw [h0]; exact hv, ⟨by rw [h0]; exact Nat.le_refl 0, fun _ => rfl, hok, fun h => by omega⟩, by decide⟩
 have hc9 : cap ≤ 9223372036854775807 := by cases e2; exact hc9
 refine ⟨some ⟨g, 0, none⟩, cap, rfl, ⟨hc, (fun h => by cases h), hok, fun _ => ⟨g, 0, rfl, (show Bk w g 36 cur from hh).lt, fun i x hx j u hu => ?_⟩⟩, hc9⟩
 have hil : i < xs.length := (List.getElem?_eq_some_iff.1 hx).1
 have hj : j < 42 := by have := (List.getElem?_eq_some_iff.1 hu).1; rw [Vt.len (hok i x hx)] at this; exact this
 have h3 := vflat_at xs hok i j x hx hj
 rw [← ht, hu, List.getElem?_take, if_pos (by omega)] at h3
 rw [(show Bk w g 36 cur from hh).cell, Nat.zero_add, ← Array.getElem?_toList]
 exact h3
def GetP (xs : List Vt) (id : List UInt8) (x : Vt) (k : Int) : Prop := (k = -1 ∧ x = zeroVt ∧ ∀ y ∈ xs, y.id ≠ id) ∨ ∃ j : Nat, k = (j : Int) ∧ xs[j]? = some x ∧ x.id = id
end Go.Proofs.Ytmjfnpmnhehnkaa
