/- Tj, Ul, St, Su -/
import Derived.Test.YtmjfnpmnhehnkaaYbc
import Derived.Test.YtmjfnpmnhehnkaaYbc
namespace Go.Proofs.Ytmjfnpmnhehnkaa
open Go.RowKit
theorem ct_take_succ {xs ys : List Vt} {k : Nat} {x y : Vt} (h : (xs.take k).map Vt.ct = (ys.take k).map Vt.ct) (hx : xs[k]? = some x) (hy : ys[k]? = some y) (e : x.ct = y.ct) : (xs.take (k + 1)).map Vt.ct = (ys.take (k + 1)).map Vt.ct := by
 rw [List.take_add_one, List.take_add_one, List.map_append, List.map_append, h, hx, hy]
 simp [e]
theorem ct_ne {xs ys : List Vt} {k : Nat} {x y : Vt} (hx : xs[k]? = some x) (hy : ys[k]? = some y) (e : x.ct ≠ y.ct) : xs.map Vt.ct ≠ ys.map Vt.ct := fun h => e (by
 have h1 : (xs.map Vt.ct)[k]? = (ys.map Vt.ct)[k]? := by rw [h]
 rw [List.getElem?_map, List.getElem?_map, hx, hy] at h1
 simpa using h1)
set_option maxHeartbeats 4000000 in
set_option maxRecDepth 100000 in
theorem rvs_any (ad1 ad2 : Option Addr) (cap1 cap2 : Nat) (xs ys : List Vt) (c1 : cap1 ≤ 9223372036854775807) (c2 : cap2 ≤ 9223372036854775807) (w : World) (h1 : Vp.In ad1 cap1 xs w) (h2 : Vp.In ad2 cap2 ys w) (v1 : ∀ (i : Nat) (x : Vt), xs[i]? = some x → VI w x) (v2 : ∀ (i : Nat) (x : Vt), ys[i]? = some x → VI w x) :
  Calls Try.prog 30 #[.slice ad1 xs.length cap1, .slice ad2 ys.length cap2] w fun e w' => e = .returned (.bool (decide (xs.map Vt.ct = ys.map Vt.ct))) ∧ Ex w w' := by
 have H1 := Hi h1
 have H2 := Hi h2
 have V1 := Hi v1
 have V2 := Hi v2
 obtain ⟨n, hn⟩ : ∃ n, n = xs.length := ⟨_, rfl⟩
 obtain ⟨m, hm⟩ : ∃ m, m = ys.length := ⟨_, rfl⟩
 have hnb : n ≤ 9223372036854775807 := by rw [hn]; exact Nat.le_trans h1.len c1
 have hmb : m ≤ 9223372036854775807 := by rw [hm]; exact Nat.le_trans h2.len c2
 rw [← hn, ← hm]
 have HN := Hi hn
 have HM := Hi hm
 obtain ⟨br, hbr⟩ : ∃ b, b = decide (xs.map Vt.ct = ys.map Vt.ct) := ⟨_, rfl⟩
 rw [← hbr]
 have HBR := Hi hbr
 clear h1 h2 v1 v2 hn hm hbr c1 c2
 by_cases hnm : n = m
 rotate_left
 ·have hi : ¬ (n : Int) = (m : Int) := by omega
  go_enter Try.func30, Try.ntmps30
  go_wp2_with fail
  go_ret
  exact ⟨by rw [HBR.out, decide_eq_false (fun h => hnm (by rw [HN.out, HM.out]; have := congrArg List.length h; simpa using this))]; rfl, Ex.refl _⟩
 obtain rfl := hnm
 go_enter Try.func30, Try.ntmps30
 go_wp2_with (first | ((with_reducible refine so4 [36, 1000+36, 32, 1000+32, 4000+36] ?_ ?_); (focus rfl)) | (with_reducible refine stop_bs (t := 37) ?_) | (with_reducible refine stop_app ?_))
 go_loopw [5] (fun i wr => ∃ k : Nat, k ≤ n ∧ i = .int .i64 k ∧ Hid ((xs.take k).map Vt.ct = (ys.take k).map Vt.ct) ∧ Hid (Ex w wr)) (fun i _ => n - (intOf i).toNat)
 case atStart => exact ⟨0, by omega, rfl, Hi rfl, Hi (Ex.refl _)⟩
 obtain ⟨k, hk, rfl, HG, BW⟩ := hrel
 by_cases hlt : k < n
 rotate_left
 ·obtain rfl : k = n := by omega
  have q1 : ¬ (k : Int) < (k : Int) := by omega
  go_wp2_with fail
  go_ret
  exact ⟨by rw [HBR.out, decide_eq_true (by have := HG.out; rw [List.take_of_length_le (by rw [← HN.out]; exact Nat.le_refl _), List.take_of_length_le (by rw [← HM.out]; exact Nat.le_refl _)] at this; exact this)]; rfl, BW.out⟩
 have q0 : (0 : Int) ≤ (k : Int) := by omega
 have q1 : (k : Int) < (n : Int) := by omega
 obtain ⟨x, hx⟩ : ∃ z, xs[k]? = some z := ⟨_, List.getElem?_eq_getElem (by rw [← HN.out]; exact hlt)⟩
 obtain ⟨a1, o1, rfl, ha1, hr1⟩ := (H1.out.ext BW.out).read (by rw [← HN.out]; omega)
 have R1 := Hi (hr1 k x hx)
 have I1 := Hi (V1.out k x hx)
 have K1 := Hi hx
 have A1 := Hi ha1
 clear hr1 ha1 hx
 obtain ⟨y, hy⟩ : ∃ z, ys[k]? = some z := ⟨_, List.getElem?_eq_getElem (by rw [← HM.out]; exact hlt)⟩
 obtain ⟨a2, o2, rfl, ha2, hr2⟩ := (H2.out.ext BW.out).read (by rw [← HM.out]; omega)
 have R2 := Hi (hr2 k y hy)
 have I2 := Hi (V2.out k y hy)
 have K2 := Hi hy
 have A2 := Hi ha2
 clear hr2 ha2 hy
 obtain ⟨b, hb⟩ : ∃ b, b = decide (x.ct = y.ct) := ⟨_, rfl⟩
 have HB := Hi hb
 clear hb
 go_wp2_with (first | ((with_reducible refine so4 [36, 1000+36, 32, 1000+32, 4000+36] ?_ ?_); (focus rfl)) | (with_reducible refine stop_bs (t := 37) ?_) | (with_reducible refine stop_app ?_))
 obtain ⟨T, hT⟩ : ∃ T : List (Rw wr.heap.size), T = [.is (.slice (some ⟨a1, o1, none⟩) n cap1), .is (.int .i64 k), .is (.pointer (some ⟨a1, o1 + k * 42, none⟩)), .is (x.V), .is (.slice (some ⟨a2, o2, none⟩) n cap2), .is (.int .i64 k), .is (.pointer (some ⟨a2, o2 + k * 42, none⟩)), .is (y.V), .is (.bool b), .is (.bool (!b))] := ⟨_, rfl⟩
 have HTY : T.map Rw.tys = ([[], [], [], [], [], [], [], [], [], []] : List (List Nat)) := by rw [hT]; rfl
 refine wp_region_gen (JW wr.heap.size wr [0] T ([[], [], [], [], [], [], [], [], [], []] : List (List Nat)) ([none, none, none, none, none, none, none, none, none, none] : List (Option Nat)) ([] : List (Nat × Nat)) 100000) (by kernel_rfl) (by kernel_rfl) (by kernel_rfl) (fitB_spec (by kernel_rfl)) (fun listed f h => JW.start (Nat.le_refl _) listed f h) ?_ ?_
 ·intro i o ho
  have hi : i < 10 := (Array.getElem?_eq_some_iff.1 ho).1
  have hi' : i = 0 ∨ i = 1 ∨ i = 2 ∨ i = 3 ∨ i = 4 ∨ i = 5 ∨ i = 6 ∨ i = 7 ∨ i = 8 ∨ i = 9 := by omega
  clear hi
  rcases hi' with rfl | rfl | rfl | rfl | rfl | rfl | rfl | rfl | rfl | rfl
  all_goals (simp only [List.getElem?_toArray, List.getElem?_cons_zero, List.getElem?_cons_succ, Option.some.injEq] at ho; subst ho; intro listed f a w2 hJ hsz hls hun hdep hout hlat; first | (rw [if_pos (by rfl)]; intro K hK) | skip)
  ·have q0 := hout 0 (outB_spec (by kernel_rfl))
   refine wp_mv _ rfl (hK _ _ ?_)
   rw [show a.eval (.tmp 0) = .slice (some ⟨a1, o1, none⟩) n cap1 from q0]
   exact hJ.plain HTY (by rw [hls]; decide) (Ex.refl _) (by rw [hT]; rfl) (no_head (by decide))
  ·have q5 := hout 5 (outB_spec (by kernel_rfl))
   refine wp_mv _ rfl (hK _ _ ?_)
   rw [show a.eval (.tmp 5) = .int .i64 k from q5]
   exact hJ.plain HTY (by rw [hls]; decide) (Ex.refl _) (by rw [hT]; rfl) (no_head (by decide))
  ·have dd17 := hdep ⟨0, .data⟩ (by simp) rfl
   have q17 := dd17.2 _ rfl _ rfl
   have h17 := hJ.vals 0 dd17.1 no_c
   rw [hT] at h17
   rw [show f 0 = .slice (some ⟨a1, o1, none⟩) n cap1 from h17] at q17
   clear h17
   clear dd17
   have dd18 := hdep ⟨1, .data⟩ (by simp) rfl
   have q18 := dd18.2 _ rfl _ rfl
   have h18 := hJ.vals 1 dd18.1 no_c
   rw [hT] at h18
   rw [show f 1 = .int .i64 k from h18] at q18
   clear h18
   clear dd18
   rw [Array.getD_eq_getD_getElem?] at q17 q18
   clear hsz hdep hout hlat
   go_simp
   exact hK _ _ (hJ.plain HTY (by rw [hls]; decide) (Ex.refl _) (by rw [hT]; rfl) (no_head (by decide)))
  ·have dd19 := hdep ⟨2, .data⟩ (by simp) rfl
   have q19 := dd19.2 _ rfl _ rfl
   have h19 := hJ.vals 2 dd19.1 no_c
   rw [hT] at h19
   rw [show f 2 = .pointer (some ⟨a1, o1 + k * 42, none⟩) from h19] at q19
   clear h19
   clear dd19
   exact ld_vr (.tmp 19) a1 (o1 + k * 42) x I1.out.ok rfl q19 (fun j u hu => (Below.cell (p := ⟨a1, o1 + k * 42 + j, none⟩) hJ.ext.below A1.out).trans (R1.out j u hu)) (hK _ _ (hJ.plain HTY (by rw [hls]; decide) (Ex.refl _) (by rw [hT]; rfl) (no_head (by decide))))
  ·have q1 := hout 1 (outB_spec (by kernel_rfl))
   refine wp_mv _ rfl (hK _ _ ?_)
   rw [show a.eval (.tmp 1) = .slice (some ⟨a2, o2, none⟩) n cap2 from q1]
   exact hJ.plain HTY (by rw [hls]; decide) (Ex.refl _) (by rw [hT]; rfl) (no_head (by decide))
  ·have q5 := hout 5 (outB_spec (by kernel_rfl))
   refine wp_mv _ rfl (hK _ _ ?_)
   rw [show a.eval (.tmp 5) = .int .i64 k from q5]
   exact hJ.plain HTY (by rw [hls]; decide) (Ex.refl _) (by rw [hT]; rfl) (no_head (by decide))
  ·have dd21 := hdep ⟨4, .data⟩ (by simp) rfl
   have q21 := dd21.2 _ rfl _ rfl
   have h21 := hJ.vals 4 dd21.1 no_c
   rw [hT] at h21
   rw [show f 4 = .slice (some ⟨a2, o2, none⟩) n cap2 from h21] at q21
   clear h21
   clear dd21
   have dd22 := hdep ⟨5, .data⟩ (by simp) rfl
   have q22 := dd22.2 _ rfl _ rfl
   have h22 := hJ.vals 5 dd22.1 no_c
   rw [hT] at h22
   rw [show f 5 = .int .i64 k from h22] at q22
   clear h22
   clear dd22
   rw [Array.getD_eq_getD_getElem?] at q21 q22
   clear hsz hdep hout hlat
   go_simp
   exact hK _ _ (hJ.plain HTY (by rw [hls]; decide) (Ex.refl _) (by rw [hT]; rfl) (no_head (by decide)))
  ·have dd23 := hdep ⟨6, .data⟩ (by simp) rfl
   have q23 := dd23.2 _ rfl _ rfl
   have h23 := hJ.vals 6 dd23.1 no_c
   rw [hT] at h23
   rw [show f 6 = .pointer (some ⟨a2, o2 + k * 42, none⟩) from h23] at q23
   clear h23
   clear dd23
   exact ld_vr (.tmp 23) a2 (o2 + k * 42) y I2.out.ok rfl q23 (fun j u hu => (Below.cell (p := ⟨a2, o2 + k * 42 + j, none⟩) hJ.ext.below A2.out).trans (R2.out j u hu)) (hK _ _ (hJ.plain HTY (by rw [hls]; decide) (Ex.refl _) (by rw [hT]; rfl) (no_head (by decide))))
  ·have dd20 := hdep ⟨3, .data⟩ (by simp) rfl
   have q20 := dd20.2 _ rfl _ rfl
   have h20 := hJ.vals 3 dd20.1 no_c
   rw [hT] at h20
   rw [show f 3 = x.V from h20] at q20
   clear h20
   clear dd20
   have dd24 := hdep ⟨7, .data⟩ (by simp) rfl
   have q24 := dd24.2 _ rfl _ rfl
   have h24 := hJ.vals 7 dd24.1 no_c
   rw [hT] at h24
   rw [show f 7 = y.V from h24] at q24
   clear h24
   clear dd24
   rw [Array.getD_eq_getD_getElem?] at q20 q24
   clear hsz hdep hout hlat
   go_simp
   refine (rsame_any x y w2 (I1.out.ext (Ex.trans BW.out hJ.ext.below)) (I2.out.ext (Ex.trans BW.out hJ.ext.below))).mono ?_
   rintro e w3 ⟨rfl, x3⟩
   exact hK _ _ (hJ.plain HTY (by rw [hls]; decide) x3 (by rw [hT]; exact congrArg Value.bool HB.out.symm) (no_head (by decide)))
  have dd25 := hdep ⟨8, .data⟩ (by simp) rfl
  have q25 := dd25.2 _ rfl _ rfl
  have h25 := hJ.vals 8 dd25.1 no_c
  rw [hT] at h25
  rw [show f 8 = .bool b from h25] at q25
  clear h25
  clear dd25
  rw [Array.getD_eq_getD_getElem?] at q25
  clear hsz hdep hout hlat
  go_simp
  exact hK _ _ (hJ.plain HTY (by rw [hls]; decide) (Ex.refl _) (by rw [hT]; rfl) (no_head (by decide)))
 intro listed f w2 hall hJ
 have f9 : f 9 = .bool (!b) := by
  have h := hJ.vals 9 (hall 9 (by simp)) no_c
  rw [hT] at h; exact h
 have xk := hJ.ext
 simp only [putAll, Act.put, List.setIfInBounds_toArray, List.set_cons_zero, List.set_cons_succ, Nat.zero_add, Nat.reduceAdd]
 rw [f9]
 clear f9
 clear hJ hall hT HTY
 replace BW := Hi (Ex.trans BW.out (show Ex wr w2 from xk.below))
 clear xk
 cases b
 ·skip
  go_wp2_with fail
  go_ret
  exact ⟨by rw [HBR.out, decide_eq_false (ct_ne K1.out K2.out (of_decide_eq_false HB.out.symm))]; rfl, BW.out⟩
 skip
 go_wp2_with (first | ((with_reducible refine so4 [36, 1000+36, 32, 1000+32, 4000+36] ?_ ?_); (focus rfl)) | (with_reducible refine stop_bs (t := 37) ?_) | (with_reducible refine stop_app ?_))
 go_roundw
 case rel => exact ⟨k + 1, by omega, by first | rfl | go_num, Hi (ct_take_succ HG.out K1.out K2.out (of_decide_eq_true HB.out.symm)), BW⟩
 case measure => simp [intOf]; omega
end Go.Proofs.Ytmjfnpmnhehnkaa
namespace Go.Proofs.Ytmjfnpmnhehnkaa
open Go.RowKit
theorem VRow.other {w w' : World} {D' B : Nat} {v rv' : Value} {xs vs' : List Vt} (h : VRow w B v xs) (h' : TB w D' rv' vs') (k : Tc D' rv'.ownBlock w w') (hr : Djn v rv') : VRow w' B v xs := by
 have hrow := h'.row.blk
 have keep : ∀ x, TVN w x → TVN w' x := fun x hx => by
  rcases hrow with e | ⟨gb, e, _, _, hb⟩
  ·exact hx.tc (gb := 0) k h'.blk (Or.inl e)
  ·exact hx.tc k h'.blk (Or.inr ⟨e, hb⟩)
 refine ⟨⟨h.row.1, h.row.2.imp id fun ⟨g, cap, cur, hv, hB, hg, hrest⟩ => ⟨g, cap, cur, hv, hB, ?_, hrest⟩⟩, fun i x hx => keep x (h.ins i x hx)⟩
 exact (show Bk w' g 36 cur from k.bk hg (fun e => by subst e; exact h'.D_ne hg rfl) (fun e => hr g (by rw [hv]; rfl) e.symm))
theorem VRow.inn3 {w : World} {B : Nat} {v : Value} {xs : List Vt} (h : VRow w B v xs) : ∃ ad cap, v = .slice ad xs.length cap ∧ Vp.In ad cap xs w ∧ cap ≤ 9223372036854775807 := by
 obtain ⟨ad, cap, e, hin⟩ := h.inn
 obtain ⟨ad2, cap2, e2, _, _, hc, _⟩ := own_rd h.row
 rw [e] at e2; cases e2
 exact ⟨ad, cap, e, hin, hc⟩
end Go.Proofs.Ytmjfnpmnhehnkaa
namespace Go.Proofs.Ytmjfnpmnhehnkaa
open Go.RowKit
structure LO (w0 wb w : World) (B : Nat) (D : Nat → Nat) (r : Nat → Value) (v : Nat → List Vt) (B2 M2 : Nat) (m2 : Int) (p2 : Nat → Pa) (D2 : Nat → Nat) (r2 : Nat → Value) (v2 : Nat → List Vt) (tv : Value) (us : List Vt) : Prop where
  ts : TS w B 16 D r v
  s2 : SS w B2 M2 m2 2 p2 D2 r2 v2
  ap : Apart D r D2 r2
  row : VRow w w0.heap.size tv us
  d1 : ∀ i, i < 16 → Djn tv (r i)
  d2 : ∀ i, i < 16 → Djn tv (r2 i)
  ex : Ex w0 w
  lo : w0.heap.size ≤ B
  kp : ∀ (g : Nat) (cs : Array Value), Bk wb g 42 cs → Bk w g 42 cs
section
variable {w0 wb w w' : World} {B M s : Nat} {m : Int} {p p' : Nat → Pa} {D : Nat → Nat} {r : Nat → Value} {v : Nat → List Vt} {B2 M2 : Nat} {m2 : Int} {p2 : Nat → Pa} {D2 : Nat → Nat} {r2 : Nat → Value} {v2 : Nat → List Vt} {tv r' : Value} {us ls : List Vt}
theorem LO.md (h : LO w0 wb w B D r v B2 M2 m2 p2 D2 r2 v2 tv us) {cs : Array Value} (hb : Bk w M 115 cs) (k : Md M w w') (hne : M ≠ M2) (hlo : w0.heap.size ≤ M) : LO w0 wb w' B D r v B2 M2 m2 p2 D2 r2 v2 tv us := by
  have kt : Kt [115] w0.heap.size w w' := Kt.md k hlo hb (List.mem_singleton.2 rfl)
  exact ⟨h.ts.kts kt (by decide) (by decide) (by decide), ⟨k.bk h.s2.blk (Ne.symm hne), h.s2.ts.kts kt (by decide) (by decide) (by decide), h.s2.ok, h.s2.mok⟩, h.ap, ⟨kt.row h.row.row (by decide), fun i x hx => (h.row.ins i x hx).kt kt (by decide)⟩, h.d1, h.d2, k.ex h.ex hlo, h.lo, fun g cs hg => kt.bk (h.kp g cs hg) (by decide)⟩
theorem LO.fresh (h : LO w0 wb w B D r v B2 M2 m2 p2 D2 r2 v2 tv us) (hs : s < 16) (hl : Lies w (r s) r') : Apart D (updF r s r') D2 r2 ∧ ∀ i, i < 16 → Djn tv (updF r s r' i) := by
  refine ⟨⟨h.ap.dd, fun i j hi hj => ?_⟩, fun i hi => ?_⟩
  · by_cases e : i = s
    · subst e
      rw [updF_same]
      intro g hg hg2
      rcases hl with h1 | h1
      · exact h.ap.rr i j hi hj g (h1 ▸ hg) hg2
      have h3 := h1 g hg
      have h4 := ((h.s2.ts.tb j hj).row.row.lt g hg2).2
      omega
    rw [updF_ne _ _ e]; exact h.ap.rr i j hi hj
  by_cases e : i = s
  · subst e
    rw [updF_same]
    intro g hg hg2
    rcases hl with h1 | h1
    · exact h.d1 i hi g hg (h1 ▸ hg2)
    have h3 := h1 g hg2
    have h4 := (h.row.row.lt g hg).2
    omega
  rw [updF_ne _ _ e]; exact h.d1 i hi
theorem LO.tc (h : LO w0 wb w B D r v B2 M2 m2 p2 D2 r2 v2 tv us) (hs : s < 16) (k : Tc (D s) (r s).ownBlock w w') (ht : TS w' B 16 D (updF r s r') (updF v s ls)) (hf : Apart D (updF r s r') D2 r2 ∧ ∀ i, i < 16 → Djn tv (updF r s r' i)) : LO w0 wb w' B D (updF r s r') (updF v s ls) B2 M2 m2 p2 D2 r2 v2 tv us := by
  have hb := h.ts.tb s hs
  exact ⟨ht, ⟨k.kt9 hb h.s2.blk (by decide) (by decide), ⟨fun i hi => (h.s2.ts.tb i hi).other hb k (fun e => h.ap.dd s i hs hi e.symm) (h.ap.rr s i hs hi).symm, h.s2.ts.lo, h.s2.ts.dd, h.s2.ts.rr⟩, h.s2.ok, h.s2.mok⟩, hf.1, h.row.other hb k (h.d1 s hs), hf.2, h.d2, k.ex9 hb h.ex (Nat.le_trans h.lo (h.ts.lo s hs)), h.lo, fun g cs hg => k.kt9 hb (h.kp g cs hg) (by decide) (by decide)⟩
end
structure LV (w0 wb w : World) (B M : Nat) (m : Int) (p : Nat → Pa) (D : Nat → Nat) (r : Nat → Value) (v : Nat → List Vt) (B2 M2 : Nat) (m2 : Int) (p2 : Nat → Pa) (D2 : Nat → Nat) (r2 : Nat → Value) (v2 : Nat → List Vt) (tv : Value) (us : List Vt) : Prop where
  o : LO w0 wb w B D r v B2 M2 m2 p2 D2 r2 v2 tv us
  s1 : SS w B M m 2 p D r v
  ne : M ≠ M2
  lo : w0.heap.size ≤ M ∧ w0.heap.size ≤ M2 ∧ w0.heap.size ≤ B2
section
variable {w0 wb w w' : World} {B M s : Nat} {m : Int} {p p' : Nat → Pa} {D : Nat → Nat} {r : Nat → Value} {v : Nat → List Vt} {B2 M2 : Nat} {m2 : Int} {p2 : Nat → Pa} {D2 : Nat → Nat} {r2 : Nat → Value} {v2 : Nat → List Vt} {tv r' : Value} {us ls : List Vt}
theorem LV.ext (h : LV w0 wb w B M m p D r v B2 M2 m2 p2 D2 r2 v2 tv us) (k : Ex w w') : LV w0 wb w' B M m p D r v B2 M2 m2 p2 D2 r2 v2 tv us :=
  ⟨⟨h.o.ts.ext k, h.o.s2.ext k, h.o.ap, h.o.row.ext k, h.o.d1, h.o.d2, Ex.trans h.o.ex k, h.o.lo, fun g cs hg => (h.o.kp g cs hg).ext k⟩, h.s1.ext k, h.ne, h.lo⟩
theorem LV.base (h : LV w0 wb w B M m p D r v B2 M2 m2 p2 D2 r2 v2 tv us) : LV w0 w w B M m p D r v B2 M2 m2 p2 D2 r2 v2 tv us :=
  ⟨⟨h.o.ts, h.o.s2, h.o.ap, h.o.row, h.o.d1, h.o.d2, h.o.ex, h.o.lo, fun _ _ hg => hg⟩, h.s1, h.ne, h.lo⟩
theorem LV.swap (h : LV w0 wb w B M m p D r v B2 M2 m2 p2 D2 r2 v2 tv us) : LV w0 wb w B2 M2 m2 p2 D2 r2 v2 B M m p D r v tv us :=
  ⟨⟨h.o.s2.ts, h.s1, ⟨fun i j hi hj e => h.o.ap.dd j i hj hi e.symm, fun i j hi hj => (h.o.ap.rr j i hj hi).symm⟩, h.o.row, h.o.d2, h.o.d1, h.o.ex, h.lo.2.2, h.o.kp⟩, h.o.s2, Ne.symm h.ne, h.lo.2.1, h.lo.1, h.o.lo⟩
theorem LV.md (h : LV w0 wb w B M m p D r v B2 M2 m2 p2 D2 r2 v2 tv us) (k : Md M w w') (hs : SS w' B M m 2 p' D r v) : LV w0 wb w' B M m p' D r v B2 M2 m2 p2 D2 r2 v2 tv us :=
  ⟨h.o.md h.s1.blk k h.ne h.lo.1, hs, h.ne, h.lo⟩
theorem LV.tc (h : LV w0 wb w B M m p D r v B2 M2 m2 p2 D2 r2 v2 tv us) (hs : s < 16) (k : Tc (D s) (r s).ownBlock w w') (h1 : SS w' B M m 2 p' D (updF r s r') (updF v s ls)) (hl : Lies w (r s) r') : LV w0 wb w' B M m p' D (updF r s r') (updF v s ls) B2 M2 m2 p2 D2 r2 v2 tv us :=
  ⟨h.o.tc hs k h1.ts (h.o.fresh hs hl), h1, h.ne, h.lo⟩
theorem LV.inf (h : LV w0 wb w B M m p D r v B2 M2 m2 p2 D2 r2 v2 tv us) {q : Pa} {C : List Vc} (hs : s < 16) (hF : InF B M m 2 p D r v s q C w w') : ∃ r' ys, ys.map Vt.ct = C ∧ LV w0 wb w' B M m (updF p s q) D (updF r s r') (updF v s ys) B2 M2 m2 p2 D2 r2 v2 tv us := by
  obtain ⟨rv', ys, hc, hss, ⟨wm, k1, k2⟩, hf⟩ := hF
  exact ⟨rv', ys, hc, (h.o.md h.s1.blk k1 h.ne h.lo.1).tc hs k2.tc hss.ts (h.o.fresh hs (Or.inr hf)), hss, h.ne, h.lo⟩
end
end Go.Proofs.Ytmjfnpmnhehnkaa
namespace Go.Proofs.Ytmjfnpmnhehnkaa
open Go.RowKit
theorem mem_ct {ys us : List Vt} (h : ys.map Vt.ct = us.map Vt.ct) {y : Vt} (hy : y ∈ ys) : ∃ u, u ∈ us ∧ y.ct = u.ct := by
  have h1 : y.ct ∈ us.map Vt.ct := by rw [← h]; exact List.mem_map_of_mem hy
  obtain ⟨u, hu, e⟩ := List.mem_map.1 h1
  exact ⟨u, hu, e.symm⟩
structure UsOK (s : Int) (us : List Vt) : Prop where
  ris : Rising us
  sh : AllOf us s
theorem UsOK.of {s : Int} {ys us : List Vt} (h : ys.map Vt.ct = us.map Vt.ct) (k : UsOK s us) : UsOK s ys := by
  have hl : ys.length = us.length := by have := congrArg List.length h; simpa using this
  refine ⟨⟨by rw [hl]; exact k.ris.1, fun i x hx => ?_, fun i hi => ?_⟩, fun x hx => ?_⟩
  · obtain ⟨u, hu, e⟩ := mem_ct h (List.mem_of_getElem? hx)
    obtain ⟨j, hj, e2⟩ := List.getElem_of_mem hu
    rw [e]; exact k.ris.2.1 j u (by rw [List.getElem?_eq_getElem hj, e2])
  · rw [idF_ct h, idF_ct h]; exact k.ris.2.2 i (by rw [← hl]; exact hi)
  obtain ⟨u, hu, e⟩ := mem_ct h hx
  rw [show x.id = u.id from congrArg Vc.id e]; exact k.sh u hu
theorem numsS_mem {s : Int} {k q : Nat} (h : q ∈ numsS s k) : q < k ∧ Sm.shV (idV q) = s := by
  unfold numsS at h
  have h1 := List.mem_filter.1 h
  exact ⟨List.mem_range.1 h1.1, of_decide_eq_true h1.2⟩
theorem numsS_lt (s : Int) (k : Nat) : (numsS s k).Pairwise (· < ·) := List.Pairwise.filter _ List.pairwise_lt_range
theorem idn_idV {q : Nat} (h : q < 256) : idn (idV q) = q * 16777216 + 458752 := by
  have e : (UInt8.ofNat q).toNat = q := UInt8.toNat_ofNat_of_lt' h
  show (UInt8.ofNat q).toNat * 16777216 + (7 : UInt8).toNat * 65536 + (0 : UInt8).toNat * 256 + (0 : UInt8).toNat = _
  rw [e, show (7 : UInt8).toNat = 7 from rfl, show (0 : UInt8).toNat = 0 from rfl]
theorem usok_of {s : Int} {us : List Vt} (h4 : us.length ≤ 4) (hid : us.map (fun y => y.id) = (idsS s 256).take us.length) (hr : ∀ y ∈ us, y.ct.right = true) : UsOK s us := by
  have key : ∀ (i : Nat) (x : Vt), us[i]? = some x → ∃ q, (numsS s 256)[i]? = some q ∧ x.id = idV q := fun i x hx => by
    have hi : i < us.length := (List.getElem?_eq_some_iff.1 hx).1
    have e : (us.map (fun y => y.id))[i]? = ((idsS s 256).take us.length)[i]? := by rw [hid]
    rw [List.getElem?_map, hx, List.getElem?_take, if_pos hi] at e
    unfold idsS at e
    rw [List.getElem?_map] at e
    cases hq : (numsS s 256)[i]? with
    | none => rw [hq] at e; cases e
    | some q => rw [hq] at e; exact ⟨q, rfl, by simpa using e⟩
  refine ⟨⟨h4, fun i x hx => hr x (List.mem_of_getElem? hx), fun i hi => ?_⟩, fun x hx => ?_⟩
  · obtain ⟨x, hx⟩ : ∃ x, us[i]? = some x := ⟨_, List.getElem?_eq_getElem (by omega)⟩
    obtain ⟨y, hy⟩ : ∃ x, us[i + 1]? = some x := ⟨_, List.getElem?_eq_getElem hi⟩
    obtain ⟨q, hq, e1⟩ := key i x hx
    obtain ⟨q2, hq2, e2⟩ := key (i + 1) y hy
    rw [idF_at us i x hx, idF_at us (i + 1) y hy, e1, e2, idn_idV (numsS_mem (List.mem_of_getElem? hq)).1, idn_idV (numsS_mem (List.mem_of_getElem? hq2)).1]
    obtain ⟨l1, e3⟩ := List.getElem?_eq_some_iff.1 hq
    obtain ⟨l2, e4⟩ := List.getElem?_eq_some_iff.1 hq2
    have := List.pairwise_iff_getElem.1 (numsS_lt s 256) i (i + 1) l1 l2 (Nat.lt_succ_self i)
    rw [e3, e4] at this
    omega
  obtain ⟨i, hi, e⟩ := List.getElem_of_mem hx
  obtain ⟨q, hq, e1⟩ := key i x (by rw [List.getElem?_eq_getElem hi, e])
  rw [e1]; exact (numsS_mem (List.mem_of_getElem? hq)).2
/-- the next vault of a rising row is put behind the others -/
theorem putrel_app {s : Int} {us vs ls : List Vt} {x : Vt} {k : Nat} (hus : UsOK s us) (hv : vs.map Vt.ct = (us.take k).map Vt.ct) (hk : us[k]? = some x) (hp : PutRel vs x ls) : ls.map Vt.ct = (us.take (k + 1)).map Vt.ct := by
  have hkl : k < us.length := (List.getElem?_eq_some_iff.1 hk).1
  have hl : vs.length = k := by have := congrArg List.length hv; simp only [List.length_map, List.length_take] at this; omega
  have hlt : ∀ i, i < k → idF vs i < idn x.id := fun i hi => by
    rw [idF_ct hv i, ← idF_at us k x hk]
    have e : idF (us.take k) i = idF us i := by
      unfold idF
      rw [List.getD_eq_getElem?_getD, List.getD_eq_getElem?_getD, List.getElem?_take, if_pos hi]
    rw [e]; exact hus.ris.srt i k hi hkl
  have hr := hus.ris.2.1 k x hk
  have h4 := hus.ris.1
  rcases hp with ⟨h1, _⟩ | ⟨_, q, z, hb, hz, ⟨h1, h2, _⟩ | ⟨_, h2, _⟩ | ⟨_, _, rfl⟩⟩
  · rw [hr] at h1; cases h1
  · have := hlt q (by omega); omega
  · omega
  have hq : q = vs.length := by
    have h5 := hb.1
    rcases Nat.lt_or_ge q vs.length with h6 | h6
    · have h7 := hb.2.2 q (Nat.le_refl _) h6
      have h8 := hlt q (by omega)
      omega
    · omega
  rw [hq, List.take_length, List.drop_length, List.map_append, hv, List.take_add_one, hk, List.map_append]
  simp [hz]
def rkO (s t e : Int) : Rk := ⟨2, s, t, e, zeroVt, none, 0, []⟩
def rkI (s e : Int) (ad : Option Addr) (cap : Nat) (l : List Vt) : Rk := ⟨3, s, 0, e, zeroVt, ad, cap, l⟩
def rkD (s e : Int) : Rk := ⟨4, s, 0, e, zeroVt, none, 0, []⟩
set_option maxRecDepth 100000 in
theorem built_rkO (s t e : Int) : Try.prog.built 39 [(0, .int .i64 2), (1, .int .i64 s), (2, .int .i64 t), (3, .int .u64 e)] = some (rkO s t e).C.toArray := by kernel_rfl
set_option maxRecDepth 100000 in
theorem built_rkI (s e : Int) (ad : Option Addr) (cap : Nat) (l : List Vt) : Try.prog.built 39 [(0, .int .i64 3), (1, .int .i64 s), (3, .int .u64 e), (5, .slice ad l.length cap)] = some (rkI s e ad cap l).C.toArray := by kernel_rfl
set_option maxRecDepth 100000 in
theorem built_rkD (s e : Int) : Try.prog.built 39 [(0, .int .i64 4), (1, .int .i64 s), (3, .int .u64 e)] = some (rkD s e).C.toArray := by kernel_rfl
theorem none_in (w : World) (B : Nat) : Vp.In none 0 [] w := ⟨Nat.le_refl _, fun _ => rfl, fun i x hx => by simp at hx, fun h => absurd h (Nat.lt_irrefl 0)⟩
theorem rk_in {w : World} {k s t e : Int} {ad : Option Addr} {cap : Nat} {l : List Vt} (hk : i64 k) (hs : i64 s) (ht : i64 t) (he : 0 ≤ e ∧ e < 18446744073709551616) (h1 : Vp.In ad cap l w) (h2 : cap ≤ 9223372036854775807) (h3 : ∀ (i : Nat) (y : Vt), l[i]? = some y → VI w y) : (Rk.mk k s t e zeroVt ad cap l).In w :=
  ⟨hk, hs, ht, he, ⟨zeroVt_ok, Nat.le_refl _, fun _ => rfl, fun h => absurd h (Nat.lt_irrefl 0)⟩, h1, h2, h3⟩
end Go.Proofs.Ytmjfnpmnhehnkaa
