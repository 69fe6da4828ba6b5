/- Cx, Cz -/
import Derived.Test.YtopamplmpfndlaaEbp
set_option maxRecDepth 100000
set_option maxHeartbeats 16000000
namespace Go.Proofs.Ytopamplmpfndlaa.Cl
open Go.RowKit
theorem make_any (B C : Nat) (n : Int) (k : List UInt8) (rv : Value) (got : List Bool) (now : Int) (x : Wt) (w : World) (hc : CI w B C n k rv got) (hf : got.length < 1000) (hx : WI w x) : Calls Try.prog 19 #[.pointer (some ⟨C, 0, none⟩), .int .i64 now, x.V] w (MakePost B C n k rv got (makeF n got.length k now x.ct) w) := by
 obtain ⟨es, hes⟩ : ∃ ds, ds = x.C.toArray := ⟨_, rfl⟩
 have V0 : Hid (WB ((w.alloc (.cells es 31)).alloc (.cells zeroQt.C.toArray 47)) w.heap.size x) := Hi ⟨hx.1, by rw [hes]; exact (Bk.new (by simp) _ _).more _⟩
 have R0 : Hid (QB ((w.alloc (.cells es 31)).alloc (.cells zeroQt.C.toArray 47)) (w.heap.size + 1) zeroQt) := Hi ⟨zeroQt_ok, Bk.new (by simp) _ _⟩
 have BW : Hid (Ex w ((w.alloc (.cells es 31)).alloc (.cells zeroQt.C.toArray 47))) := Hi (Ex.trans (Ex.alloc _ _) (Ex.alloc _ _))
 have CW := Hi hc
 have LF := Hi hf
 have HX := Hi hx
 obtain ⟨RF, hRF⟩ : ∃ R, R = makeF n got.length k now x.ct := ⟨_, rfl⟩
 have HRF := Hi hRF
 rw [← hRF]
 obtain ⟨RC, hRC⟩ : ∃ R, R = (reqF n got.length k x.ct).1 := ⟨_, rfl⟩
 obtain ⟨RE, hRE⟩ : ∃ R, R = (reqF n got.length k x.ct).2 := ⟨_, rfl⟩
 have HC := Hi hRC
 have HE := Hi hRE
 rw [show (Calls Try.prog 19 #[.pointer (some ⟨C, 0, none⟩), .int .i64 now, x.V] w) = (Calls Try.prog 19 #[.pointer (some ⟨C, 0, none⟩), .int .i64 now, .agg es] w) by rw [hes]; rfl]
 clear hes hc hf hx hRF hRC hRE
 by_cases h0 : now < 0
 ·go_enter Try.func19, Try.ntmps19
  go_wp2_with ((with_reducible refine so7 [1000 + 3, 1000 + 23, 1000 + 97] ?_ ?_); (focus rfl))
  (with_reducible refine ⟨?_⟩)
  first | change wpList _ _ _ _ _ ((w.alloc (.cells es 31)).alloc (.cells zeroQt.C.toArray 47)) | change Code.wp _ _ _ _ ((w.alloc (.cells es 31)).alloc (.cells zeroQt.C.toArray 47))
  generalize ((w.alloc (.cells es 31)).alloc (.cells zeroQt.C.toArray 47)) = wr at V0 R0 BW ⊢
  obtain ⟨g, hg⟩ : ∃ i, i = w.heap.size := ⟨_, rfl⟩
  rw [← hg] at V0 R0 ⊢
  have HG := Hi hg
  clear hg
  (with_reducible refine at_any ?_ ?_); (focus go_simp); refine fun K0 hK => wp_build _ _ rfl _ built_zreq (hK _ _ ?_)
  clear hK
  go_wp2_with ((with_reducible refine so7 [1000 + 3, 1000 + 23, 1000 + 97] ?_ ?_); (focus rfl))
  refine at9 (by go_simp) fun K0 hK => st_q _ _ (g + 1) zeroQt rfl rfl rfl zeroQt_ok R0.out.2 (by rw [List.size_toArray, Qt.len zeroQt_ok]) (fun w9 hd ho => hK _ _ ?_)
  clear hK
  replace BW := Hi (ho.below w.heap.size (by have := HG.out; omega) _ BW.out)
  have YD := Hi hd
  clear hd ho
  go_wp2_with fail
  have HZ : RF = ([], zeroQt.ct, 1) := by
    rw [HRF.out]; unfold makeF; rw [if_pos (Or.inl h0)]
  rw [HZ]
  exact bodyPost_ret (res_q3 rfl _ _ (g + 1) rfl zeroQt YD.out) rfl ⟨⟨nilB, zeroQt, rfl, rfl, nilB_pn _ _, ⟨zeroQt_ok, nilB_pn _ _⟩, rfl⟩, fun _ => BW.out, fun e => absurd e (by decide)⟩
 by_cases h8 : 8 ≤ now
 ·go_enter Try.func19, Try.ntmps19
  go_wp2_with ((with_reducible refine so7 [1000 + 3, 1000 + 23, 1000 + 97] ?_ ?_); (focus rfl))
  (with_reducible refine ⟨?_⟩)
  first | change wpList _ _ _ _ _ ((w.alloc (.cells es 31)).alloc (.cells zeroQt.C.toArray 47)) | change Code.wp _ _ _ _ ((w.alloc (.cells es 31)).alloc (.cells zeroQt.C.toArray 47))
  generalize ((w.alloc (.cells es 31)).alloc (.cells zeroQt.C.toArray 47)) = wr at V0 R0 BW ⊢
  obtain ⟨g, hg⟩ : ∃ i, i = w.heap.size := ⟨_, rfl⟩
  rw [← hg] at V0 R0 ⊢
  have HG := Hi hg
  clear hg
  (with_reducible refine at_any ?_ ?_); (focus go_simp); refine fun K0 hK => wp_build _ _ rfl _ built_zreq (hK _ _ ?_)
  clear hK
  go_wp2_with ((with_reducible refine so7 [1000 + 3, 1000 + 23, 1000 + 97] ?_ ?_); (focus rfl))
  refine at9 (by go_simp) fun K0 hK => st_q _ _ (g + 1) zeroQt rfl rfl rfl zeroQt_ok R0.out.2 (by rw [List.size_toArray, Qt.len zeroQt_ok]) (fun w9 hd ho => hK _ _ ?_)
  clear hK
  replace BW := Hi (ho.below w.heap.size (by have := HG.out; omega) _ BW.out)
  have YD := Hi hd
  clear hd ho
  go_wp2_with fail
  have HZ : RF = ([], zeroQt.ct, 1) := by
    rw [HRF.out]; unfold makeF; rw [if_pos (Or.inr h8)]
  rw [HZ]
  exact bodyPost_ret (res_q3 rfl _ _ (g + 1) rfl zeroQt YD.out) rfl ⟨⟨nilB, zeroQt, rfl, rfl, nilB_pn _ _, ⟨zeroQt_ok, nilB_pn _ _⟩, rfl⟩, fun _ => BW.out, fun e => absurd e (by decide)⟩
 have NW : Hid (¬ (now < 0 ∨ 8 ≤ now)) := Hi (by omega)
 go_enter Try.func19, Try.ntmps19
 go_wp2_with fail
 change Code.wp _ _ _ _ ((w.alloc (.cells es 31)).alloc (.cells zeroQt.C.toArray 47))
 generalize ((w.alloc (.cells es 31)).alloc (.cells zeroQt.C.toArray 47)) = wr at *
 obtain ⟨g, hg⟩ : ∃ i, i = w.heap.size := ⟨_, rfl⟩
 rw [← hg] at V0 R0 ⊢
 have HG := Hi hg
 clear hg
 have CI0 := Hi (CW.out.ext BW.out)
 have hS0 : ∀ (listed : Array Bool) (f : Nat → Value), (∀ i, listed.getD i false = false) → MK 15 11 12 13 16 wr RC RE listed f wr.drew := fun listed f h0 => MK.start h0 (ex_drewN wr 1)
 obtain ⟨T, hT⟩ : ∃ T : List (Value → Prop), T = [(fun zz => zz = .pointer (some ⟨C, 0, none⟩)), (fun zz => zz = .pointer (some ⟨C, 0, none⟩)), (fun zz => zz = .pointer (some ⟨C, 0, none⟩)), (fun zz => zz = .int .i64 n), (fun zz => zz = .pointer (some ⟨C, 0, none⟩)), (fun zz => zz = .int .u64 got.length), (fun zz => zz = .pointer (some ⟨C, 0, none⟩)), (fun zz => zz = .pointer (some ⟨C, 0, none⟩)), (fun zz => zz = .pointer (some ⟨C, 1, none⟩)), (fun zz => zz = digV k), (fun zz => zz = x.V), (fun zz => ∃ v : Value, zz = .tuple #[v, .int .i64 RE]), (fun zz => ∃ v : Value, zz = .tuple #[v, .int .i64 RE]), (fun _ => True), (fun zz => zz = .int .i64 RE), (fun _ => True), (fun _ => True), (fun zz => zz = .int .i64 RE)] := ⟨_, rfl⟩
 refine wp_region_gen (JS T ([(12, 11), (13, 12), (16, 0), (16, 1), (16, 2), (16, 3), (16, 4), (16, 5), (16, 6), (16, 7), (16, 8), (16, 9), (16, 10), (16, 11), (16, 12), (16, 13), (16, 15)] : List (Nat × Nat)) (MK 15 11 12 13 16 wr RC RE)) (by kernel_rfl) (by kernel_rfl) (by kernel_rfl) (fitB_spec (by kernel_rfl)) (fun listed f h => JS.start listed f h (hS0 listed f h)) ?_ ?_
 ·intro i o ho
  have hi : i < 18 := (Array.getElem?_eq_some_iff.1 ho).1
  have hi' : i = 0 ∨ i = 1 ∨ i = 2 ∨ i = 3 ∨ i = 4 ∨ i = 5 ∨ i = 6 ∨ i = 7 ∨ i = 8 ∨ i = 9 ∨ i = 10 ∨ i = 11 ∨ i = 12 ∨ i = 13 ∨ i = 14 ∨ i = 15 ∨ i = 16 ∨ i = 17 := by omega
  clear hi
  rcases hi' with rfl | rfl | rfl | rfl | rfl | rfl | rfl | rfl | rfl | rfl | rfl | rfl | rfl | rfl | rfl | rfl | rfl | rfl
  all_goals (simp only [List.getElem?_toArray, List.getElem?_cons_zero, List.getElem?_cons_succ, Option.some.injEq] at ho; subst ho; intro listed f a w2 hJ hsz hls hun hdep hout hlat; first | (rw [if_pos (by rfl)]; intro K hK) | skip)
  ·have q0 := hout 0 ob
   exact wp_mw _ rfl q0 (hK _ _ (hJ.nx hls hT rfl rfl (hJ.st.step (by decide) (by decide) (by decide) (by decide) (by decide) (Ex.refl _)) nh))
  ·have q21 := hJ.iq hT (hdep ⟨0, .data⟩ (by simp) rfl) rfl _ rfl _ rfl
   clear hsz hdep hout hlat
   go_simp
   exact hK _ _ (hJ.na hls hT (hJ.st.step (by decide) (by decide) (by decide) (by decide) (by decide) (Ex.refl _)))
  ·have q22 := hJ.iq hT (hdep ⟨1, .data⟩ (by simp) rfl) rfl _ rfl _ rfl
   clear hsz hdep hout hlat
   go_simp
   exact hK _ _ (hJ.na hls hT (hJ.st.step (by decide) (by decide) (by decide) (by decide) (by decide) (Ex.refl _)))
  ·have q23 := hJ.iq hT (hdep ⟨2, .data⟩ (by simp) rfl) rfl _ rfl _ rfl
   have c6 := (CI0.out.ext hJ.st.1).c0
   clear hsz hdep hout hlat
   go_simp
   exact hK _ _ (hJ.nx hls hT rfl rfl (hJ.st.step (by decide) (by decide) (by decide) (by decide) (by decide) (Ex.refl _)) nh)
  ·have q0 := hout 0 ob
   exact wp_mw _ rfl q0 (hK _ _ (hJ.nx hls hT rfl rfl (hJ.st.step (by decide) (by decide) (by decide) (by decide) (by decide) (Ex.refl _)) nh))
  ·have q25 := hJ.iq hT (hdep ⟨4, .data⟩ (by simp) rfl) rfl _ rfl _ rfl
   clear hsz hdep hout hlat
   go_simp
   refine (asked_any B C n k rv got w2 (CI0.out.ext hJ.st.1)).mono ?_
   rintro e w3 ⟨rfl, rfl⟩
   exact hK _ _ (hJ.nx hls hT rfl rfl (hJ.st.step (by decide) (by decide) (by decide) (by decide) (by decide) (Ex.refl _)) nh)
  ·have q0 := hout 0 ob
   exact wp_mw _ rfl q0 (hK _ _ (hJ.nx hls hT rfl rfl (hJ.st.step (by decide) (by decide) (by decide) (by decide) (by decide) (Ex.refl _)) nh))
  ·have q27 := hJ.iq hT (hdep ⟨6, .data⟩ (by simp) rfl) rfl _ rfl _ rfl
   clear hsz hdep hout hlat
   go_simp
   exact hK _ _ (hJ.na hls hT (hJ.st.step (by decide) (by decide) (by decide) (by decide) (by decide) (Ex.refl _)))
  ·have q28 := hJ.iq hT (hdep ⟨7, .data⟩ (by simp) rfl) rfl _ rfl _ rfl
   clear hsz hdep hout hlat
   go_simp
   exact hK _ _ (hJ.na hls hT (hJ.st.step (by decide) (by decide) (by decide) (by decide) (by decide) (Ex.refl _)))
  ·have q29 := hJ.is hT (hdep ⟨8, .data⟩ (by simp) rfl) rfl _ rfl _ rfl
   exact ld_ckey (.tmp 29) (CI0.out.ext hJ.st.1) rfl q29 (hK _ _ (hJ.nx hls hT rfl rfl (hJ.st.step (by decide) (by decide) (by decide) (by decide) (by decide) (Ex.refl _)) nh))
  ·have q5 := hout 5 ob
   exact ld_w (.tmp 5) g x rfl q5 (V0.out.ext hJ.st.1) (hK _ _ (hJ.nx hls hT rfl rfl (hJ.st.step (by decide) (by decide) (by decide) (by decide) (by decide) (Ex.refl _)) nh))
  ·have q24 := hJ.is hT (hdep ⟨3, .data⟩ (by simp) rfl) rfl _ rfl _ rfl
   have q26 := hJ.is hT (hdep ⟨5, .data⟩ (by simp) rfl) rfl _ rfl _ rfl
   have q30 := hJ.is hT (hdep ⟨9, .data⟩ (by simp) rfl) rfl _ rfl _ rfl
   have q31 := hJ.is hT (hdep ⟨10, .data⟩ (by simp) rfl) rfl _ rfl _ rfl
   have nl := unq hJ.ord 16 11 hun
   have nt := unq hJ.ord 12 11 hun
   have nx : listed.getD 13 false = false := by
    cases hc : listed.getD 13 false with
    | false => rfl
    | true => exact absurd (hJ.ord (13, 12) (by simp) hc) (by rw [nt]; decide)
   rw [gd9] at q24
   rw [gd9] at q26
   rw [gd9] at q30
   rw [gd9] at q31
   have n0 := CW.out.n0
   have n1 := CW.out.n1
   have f9 := CW.out.few
   clear hsz hdep hout hlat
   go_simp
   refine (creqst_any n got.length (by omega) (by omega) (by omega) (by omega) k CW.out.kN x w2 (HX.out.ext (Ex.trans BW.out hJ.st.1))).mono ?_
   rintro e w3 ⟨y, rfl, yi, yc, x3⟩
   rw [← HE.out]
   exact hK _ _ (hJ.nx hls hT rfl (by exact ⟨_, rfl⟩) (hJ.st.call (by decide) (by decide) (by decide) (by decide) nl nt nx x3 y yi (yc.trans HC.out.symm)) nh)
  ·have dd32 := hdep ⟨11, .data⟩ (by simp) rfl
   have q32 := dd32.2 _ rfl _ rfl
   have h32 := hJ.vals 11 dd32.1
   rw [hT] at h32
   have h32 : (fun zz => ∃ v : Value, zz = .tuple #[v, .int .i64 RE]) (f 11) := h32
   clear dd32
   have hl11 := (hdep ⟨11, .data⟩ (by simp) rfl).1
   have hord : ∀ x ∈ ([(12, 11), (13, 12), (16, 0), (16, 1), (16, 2), (16, 3), (16, 4), (16, 5), (16, 6), (16, 7), (16, 8), (16, 9), (16, 10), (16, 11), (16, 12), (16, 13), (16, 15)] : List (Nat × Nat)), x.1 = 12 → listed.getD x.2 false = true := (by intro x hx he; simp only [List.mem_cons, List.not_mem_nil, or_false] at hx; rcases hx with rfl | rfl | rfl | rfl | rfl | rfl | rfl | rfl | rfl | rfl | rfl | rfl | rfl | rfl | rfl | rfl | rfl; all_goals first | (exact absurd he (by decide)) | assumption)
   have nl := unq hJ.ord 16 12 hun
   have nx := unq hJ.ord 13 12 hun
   exact wp_mw _ rfl q32 (hK _ _ (hJ.nx hls hT rfl (by exact h32) (hJ.st.tup (by decide) (by decide) (by decide) (by decide) nl nx) hord))
  ·have dd20 := hdep ⟨12, .data⟩ (by simp) rfl
   have q20 := dd20.2 _ rfl _ rfl
   have h20 := hJ.vals 12 dd20.1
   rw [hT] at h20
   have h20 : (fun zz => ∃ v : Value, zz = .tuple #[v, .int .i64 RE]) (f 12) := h20
   clear dd20
   have hl12 := (hdep ⟨12, .data⟩ (by simp) rfl).1
   have hord : ∀ x ∈ ([(12, 11), (13, 12), (16, 0), (16, 1), (16, 2), (16, 3), (16, 4), (16, 5), (16, 6), (16, 7), (16, 8), (16, 9), (16, 10), (16, 11), (16, 12), (16, 13), (16, 15)] : List (Nat × Nat)), x.1 = 13 → listed.getD x.2 false = true := (by intro x hx he; simp only [List.mem_cons, List.not_mem_nil, or_false] at hx; rcases hx with rfl | rfl | rfl | rfl | rfl | rfl | rfl | rfl | rfl | rfl | rfl | rfl | rfl | rfl | rfl | rfl | rfl; all_goals first | (exact absurd he (by decide)) | assumption)
   have nl := unq hJ.ord 16 13 hun
   have l12 := (hdep ⟨12, .data⟩ (by simp) rfl).1
   obtain ⟨y9, e9, _, _, e8, _⟩ := (hJ.st.2.1 nl).2 (hJ.ord (12, 11) (by simp) l12)
   have z9 : f 12 = .tuple #[y9.V, .int .i64 RE] := (e8 l12).trans e9
   rw [z9] at q20
   rw [gd9] at q20
   clear hsz hdep hout hlat e8 e9
   go_simp
   exact hK _ _ (hJ.nx hls hT rfl (by exact trivial) (hJ.st.ext (by decide) (by decide) (by decide) (by decide) nl l12 z9) hord)
  ·have dd20 := hdep ⟨12, .data⟩ (by simp) rfl
   have q20 := dd20.2 _ rfl _ rfl
   have h20 := hJ.vals 12 dd20.1
   rw [hT] at h20
   have h20 : (fun zz => ∃ v : Value, zz = .tuple #[v, .int .i64 RE]) (f 12) := h20
   clear dd20
   obtain ⟨v9, e9⟩ := h20
   rw [e9] at q20
   rw [gd9] at q20
   clear hsz hdep hout hlat e9
   go_simp
   exact hK _ _ (hJ.nx hls hT rfl rfl (hJ.st.step (by decide) (by decide) (by decide) (by decide) (by decide) (Ex.refl _)) nh)
  ·have nl := unq hJ.ord 16 15 hun
   clear hsz hdep hout hlat
   go_simp
   exact hK _ _ (hJ.nx hls hT rfl (by exact trivial) (hJ.st.alloc (by decide) (by decide) (by decide) (by decide) nl) nh)
  ·have dd9 := hdep ⟨15, .data⟩ (by simp) rfl
   have q9 := dd9.2 _ rfl _ rfl
   have dd33 := hdep ⟨13, .data⟩ (by simp) rfl
   have q33 := dd33.2 _ rfl _ rfl
   have hl0 := (hdep ⟨0, .phase⟩ (by simp) rfl).1
   have hl1 := (hdep ⟨1, .phase⟩ (by simp) rfl).1
   have hl2 := (hdep ⟨2, .phase⟩ (by simp) rfl).1
   have hl3 := (hdep ⟨3, .phase⟩ (by simp) rfl).1
   have hl4 := (hdep ⟨4, .phase⟩ (by simp) rfl).1
   have hl5 := (hdep ⟨5, .phase⟩ (by simp) rfl).1
   have hl6 := (hdep ⟨6, .phase⟩ (by simp) rfl).1
   have hl7 := (hdep ⟨7, .phase⟩ (by simp) rfl).1
   have hl8 := (hdep ⟨8, .phase⟩ (by simp) rfl).1
   have hl9 := (hdep ⟨9, .phase⟩ (by simp) rfl).1
   have hl10 := (hdep ⟨10, .phase⟩ (by simp) rfl).1
   have hl11 := (hdep ⟨11, .chain⟩ (by simp) rfl).1
   have hl12 := (hdep ⟨12, .phase⟩ (by simp) rfl).1
   have hl13 := (hdep ⟨13, .data⟩ (by simp) rfl).1
   have hl15 := (hdep ⟨15, .data⟩ (by simp) rfl).1
   have hord : ∀ x ∈ ([(12, 11), (13, 12), (16, 0), (16, 1), (16, 2), (16, 3), (16, 4), (16, 5), (16, 6), (16, 7), (16, 8), (16, 9), (16, 10), (16, 11), (16, 12), (16, 13), (16, 15)] : List (Nat × Nat)), x.1 = 16 → listed.getD x.2 false = true := (by intro x hx he; simp only [List.mem_cons, List.not_mem_nil, or_false] at hx; rcases hx with rfl | rfl | rfl | rfl | rfl | rfl | rfl | rfl | rfl | rfl | rfl | rfl | rfl | rfl | rfl | rfl | rfl; all_goals first | (exact absurd he (by decide)) | assumption)
   have l15 := (hdep ⟨15, .data⟩ (by simp) rfl).1
   have l11 := (hdep ⟨11, .chain⟩ (by simp) rfl).1
   have l13 := (hdep ⟨13, .data⟩ (by simp) rfl).1
   obtain ⟨i9, a9, b9, c9⟩ := (hJ.st.2.1 hun).1 l15
   obtain ⟨y9, _, yi, yc, _, e8⟩ := (hJ.st.2.1 hun).2 l11
   rw [a9] at q9
   rw [e8 l13] at q33
   refine st_q (.tmp 9) (.tmp 33) i9 y9 rfl q9 q33 yi.1 c9 (by rw [List.size_toArray, Qt.len zeroQt_ok]) (fun w9 hd ho => ?_)
   exact hK _ _ (hJ.nx hls hT rfl (by exact trivial) (hJ.st.store (by decide) a9 b9 c9 yi.2 yc (by rw [hls]; decide) hd ho) hord)
  have q34 := hJ.iq hT (hdep ⟨14, .data⟩ (by simp) rfl) rfl _ rfl _ rfl
  clear hsz hdep hout hlat
  go_simp
  exact hK _ _ (hJ.na hls hT (hJ.st.step (by decide) (by decide) (by decide) (by decide) (by decide) (Ex.refl _)))
 intro listed f w2 hall hJ
 have f17 := hJ.fa hT (hall 17 (by simp)) rfl
 have hst := hJ.st
 simp only [putAll, Act.put, List.setIfInBounds_toArray, List.set_cons_zero, List.set_cons_succ, Nat.zero_add, Nat.reduceAdd]
 obtain ⟨i9, yq, a9, b9, c9, d9, e9⟩ := hst.2.2 (hall 16 (by simp))
 have x9 := hst.1
 have a9 : f 15 = .pointer (some ⟨i9, 0, none⟩) := a9
 clear hst hS0
 rw [a9]
 have Y := Hi c9
 have YP := Hi d9
 have YC := Hi e9
 have LO := Hi b9
 clear a9 b9 c9 d9 e9
 rw [f17]
 clear f17
 clear hJ hall hT
 have LT : Hid (g + 1 < i9) := Hi (Nat.lt_of_lt_of_le R0.out.lt LO.out)
 replace BW := Hi (Ex.trans BW.out x9)
 replace V0 := Hi (V0.out.ext x9)
 replace R0 := Hi (R0.out.ext x9)
 clear x9 LO
 by_cases hz : RE = 0
 rotate_left
 ·have NZ := Hi hz
  have hb : (RE == 0) = false := by simpa using hz
  go_wp2_with ((with_reducible refine so7 [1000 + 3, 1000 + 23, 1000 + 97] ?_ ?_); (focus rfl))
  refine at9 (by go_simp) fun K0 hK => wp_build _ _ rfl _ built_zreq (hK _ _ ?_)
  clear hK
  go_wp2_with ((with_reducible refine so7 [1000 + 3, 1000 + 23, 1000 + 97] ?_ ?_); (focus rfl))
  refine at9 (by go_simp) fun K0 hK => st_q _ _ (g + 1) zeroQt rfl rfl rfl zeroQt_ok R0.out.2 (by rw [List.size_toArray, Qt.len zeroQt_ok]) (fun w9 hd ho => hK _ _ ?_)
  clear hK
  replace BW := Hi (ho.below w.heap.size (by have := HG.out; omega) _ BW.out)
  have YD := Hi hd
  clear hd ho
  go_wp2_with fail
  have HZ : RF = ([], zeroQt.ct, RE) := by
    rw [HRF.out]; unfold makeF; rw [if_neg NW.out, if_neg (by rw [← HE.out]; exact NZ.out), ← HE.out, reqF_z (by rw [← HE.out]; exact NZ.out)]
  rw [HZ]
  exact bodyPost_ret (res_q3 rfl _ _ (g + 1) rfl zeroQt YD.out) rfl ⟨⟨nilB, zeroQt, rfl, rfl, nilB_pn _ _, ⟨zeroQt_ok, nilB_pn _ _⟩, rfl⟩, fun _ => BW.out, fun e => absurd e (by exact NZ.out)⟩
 have RR : Hid (yq.ct.right = true ∧ yq.ct.num = got.length ∧ yq.ct.client = n) := Hi (by rw [YC.out, HC.out]; exact reqF_right (by rw [← HE.out]; exact hz))
 have HZ := Hi hz
 subst hz
 go_wp2_with ((with_reducible refine so7 [1000 + 3, 1000 + 23, 1000 + 97] ?_ ?_); (focus rfl))
 refine at9 (by go_simp) fun K0 hK => ld_q _ i9 yq rfl rfl Y.out (hK _ _ ?_)
 clear hK
 go_wp2_with ((with_reducible refine so7 [1000 + 3, 1000 + 23, 1000 + 97] ?_ ?_); (focus rfl))
 refine (creq_any yq _ ⟨Y.out.1, YP.out.1⟩).mono ?_
 rintro e w3 ⟨cv, rfl, co, x3⟩
 rw [if_pos RR.out.1] at co
 rw [if_pos RR.out.1]
 obtain ⟨cp, rfl, cl, cn⟩ := own_pn co
 have CL := Hi cl
 have CN := Hi (cn.less (Nat.zero_le _))
 clear co cl cn
 replace BW := Hi (Ex.trans BW.out x3)
 replace Y := Hi (Y.out.ext x3)
 replace YP := Hi (YP.out.ext x3)
 replace R0 := Hi (R0.out.ext x3)
 replace V0 := Hi (V0.out.ext x3)
 clear x3
 go_wp2_with fail
 have f9 := LF.out
 have N0 : 0 ≤ now := by have := NW.out; omega
 have N8 : now < 8 := by have := NW.out; omega
 have n0 := CW.out.n0
 have n1 := CW.out.n1
 have hS0 : ∀ (listed : Array Bool) (f : Nat → Value), (∀ i, listed.getD i false = false) → LK 16 17 18 20 w3 (Sm.closeL k ((got.length : Int) * 4 + n) (Sm.by8 now) cp.l) listed f w3.drew := fun listed f h0 => LK.start h0 (ex_drewN w3 1)
 obtain ⟨T, hT⟩ : ∃ T : List (Value → Prop), T = [(fun zz => zz = .pointer (some ⟨C, 0, none⟩)), (fun zz => zz = .pointer (some ⟨C, 0, none⟩)), (fun zz => zz = .pointer (some ⟨C, 1, none⟩)), (fun zz => zz = digV k), (fun zz => zz = .pointer (some ⟨i9, 56, none⟩)), (fun zz => zz = .int .u64 got.length), (fun zz => zz = .int .u64 ((got.length : Int) * 4)), (fun zz => zz = .pointer (some ⟨C, 0, none⟩)), (fun zz => zz = .pointer (some ⟨C, 0, none⟩)), (fun zz => zz = .pointer (some ⟨C, 0, none⟩)), (fun zz => zz = .int .i64 n), (fun zz => zz = .int .u64 n), (fun zz => zz = .int .u64 ((got.length : Int) * 4 + n)), (fun zz => zz = .int .i64 now), (fun zz => zz = .int .u8 now), (fun zz => zz = cp.V), (fun zz => ∃ v : Value, zz = .tuple #[v, .int .i64 0]), (fun zz => ∃ v : Value, zz = .tuple #[v, .int .i64 0]), (fun _ => True), (fun zz => zz = .int .i64 0), (fun _ => True), (fun zz => zz = .int .i64 0)] := ⟨_, rfl⟩
 refine wp_region_gen (JS T ([(17, 16), (18, 17), (20, 18)] : List (Nat × Nat)) (LK 16 17 18 20 w3 (Sm.closeL k ((got.length : Int) * 4 + n) (Sm.by8 now) cp.l))) (by kernel_rfl) (by kernel_rfl) (by kernel_rfl) (fitB_spec (by kernel_rfl)) (fun listed f h => JS.start listed f h (hS0 listed f h)) ?_ ?_
 ·intro i o ho
  have hi : i < 22 := (Array.getElem?_eq_some_iff.1 ho).1
  have hi' : i = 0 ∨ i = 1 ∨ i = 2 ∨ i = 3 ∨ i = 4 ∨ i = 5 ∨ i = 6 ∨ i = 7 ∨ i = 8 ∨ i = 9 ∨ i = 10 ∨ i = 11 ∨ i = 12 ∨ i = 13 ∨ i = 14 ∨ i = 15 ∨ i = 16 ∨ i = 17 ∨ i = 18 ∨ i = 19 ∨ i = 20 ∨ i = 21 := by omega
  clear hi
  rcases hi' with rfl | rfl | rfl | rfl | rfl | rfl | rfl | rfl | rfl | rfl | rfl | rfl | rfl | rfl | rfl | rfl | rfl | rfl | rfl | rfl | rfl | rfl
  all_goals (simp only [List.getElem?_toArray, List.getElem?_cons_zero, List.getElem?_cons_succ, Option.some.injEq] at ho; subst ho; intro listed f a w2 hJ hsz hls hun hdep hout hlat; first | (rw [if_pos (by rfl)]; intro K hK) | skip)
  ·have q0 := hout 0 ob
   exact wp_mw _ rfl q0 (hK _ _ (hJ.nx hls hT rfl rfl (hJ.st.step (by decide) (by decide) (by decide) (by decide) (Ex.refl _)) nh))
  ·have q49 := hJ.iq hT (hdep ⟨0, .data⟩ (by simp) rfl) rfl _ rfl _ rfl
   clear hsz hdep hout hlat
   go_simp
   exact hK _ _ (hJ.na hls hT (hJ.st.step (by decide) (by decide) (by decide) (by decide) (Ex.refl _)))
  ·have q50 := hJ.iq hT (hdep ⟨1, .data⟩ (by simp) rfl) rfl _ rfl _ rfl
   clear hsz hdep hout hlat
   go_simp
   exact hK _ _ (hJ.na hls hT (hJ.st.step (by decide) (by decide) (by decide) (by decide) (Ex.refl _)))
  ·have q51 := hJ.is hT (hdep ⟨2, .data⟩ (by simp) rfl) rfl _ rfl _ rfl
   exact ld_ckey (.tmp 51) (CW.out.ext (Ex.trans BW.out hJ.st.1)) rfl q51 (hK _ _ (hJ.nx hls hT rfl rfl (hJ.st.step (by decide) (by decide) (by decide) (by decide) (Ex.refl _)) nh))
  ·have q9 := hout 9 ob
   rw [gd9] at q9
   clear hsz hdep hout hlat
   go_simp
   exact hK _ _ (hJ.na hls hT (hJ.st.step (by decide) (by decide) (by decide) (by decide) (Ex.refl _)))
  ·have q53 := hJ.iq hT (hdep ⟨4, .data⟩ (by simp) rfl) rfl _ rfl _ rfl
   have c6 := (Y.out.ext hJ.st.1).cells.2.2.2.2
   rw [show yq.num = (got.length : Int) from RR.out.2.1] at c6
   clear hsz hdep hout hlat
   go_simp
   exact hK _ _ (hJ.nx hls hT rfl rfl (hJ.st.step (by decide) (by decide) (by decide) (by decide) (Ex.refl _)) nh)
  ·have q54 := hJ.iq hT (hdep ⟨5, .data⟩ (by simp) rfl) rfl _ rfl _ rfl
   clear hsz hdep hout hlat
   go_simp
   exact hK _ _ (hJ.nx hls hT rfl (by exact congrArg (Value.int .u64) (by first | omega | (unfold IntKind.wrap; simp [IntKind.bits, IntKind.signed]; omega) | (rw [IntKind.wrap_u64]; omega) | (simp [IntKind.wrap]; omega))) (hJ.st.step (by decide) (by decide) (by decide) (by decide) (Ex.refl _)) nh)
  ·have q0 := hout 0 ob
   exact wp_mw _ rfl q0 (hK _ _ (hJ.nx hls hT rfl rfl (hJ.st.step (by decide) (by decide) (by decide) (by decide) (Ex.refl _)) nh))
  ·have q56 := hJ.iq hT (hdep ⟨7, .data⟩ (by simp) rfl) rfl _ rfl _ rfl
   clear hsz hdep hout hlat
   go_simp
   exact hK _ _ (hJ.na hls hT (hJ.st.step (by decide) (by decide) (by decide) (by decide) (Ex.refl _)))
  ·have q57 := hJ.iq hT (hdep ⟨8, .data⟩ (by simp) rfl) rfl _ rfl _ rfl
   clear hsz hdep hout hlat
   go_simp
   exact hK _ _ (hJ.na hls hT (hJ.st.step (by decide) (by decide) (by decide) (by decide) (Ex.refl _)))
  ·have q58 := hJ.iq hT (hdep ⟨9, .data⟩ (by simp) rfl) rfl _ rfl _ rfl
   have c6 := (CW.out.ext (Ex.trans BW.out hJ.st.1)).c0
   clear hsz hdep hout hlat
   go_simp
   exact hK _ _ (hJ.nx hls hT rfl rfl (hJ.st.step (by decide) (by decide) (by decide) (by decide) (Ex.refl _)) nh)
  ·have q59 := hJ.iq hT (hdep ⟨10, .data⟩ (by simp) rfl) rfl _ rfl _ rfl
   clear hsz hdep hout hlat
   go_simp
   exact hK _ _ (hJ.nx hls hT rfl (by exact congrArg (Value.int .u64) (by first | omega | (unfold IntKind.wrap; simp [IntKind.bits, IntKind.signed]; omega) | (rw [IntKind.wrap_u64]; omega) | (simp [IntKind.wrap]; omega))) (hJ.st.step (by decide) (by decide) (by decide) (by decide) (Ex.refl _)) nh)
  ·have q55 := hJ.iq hT (hdep ⟨6, .data⟩ (by simp) rfl) rfl _ rfl _ rfl
   have q60 := hJ.iq hT (hdep ⟨11, .data⟩ (by simp) rfl) rfl _ rfl _ rfl
   clear hsz hdep hout hlat
   go_simp
   exact hK _ _ (hJ.nx hls hT rfl (by exact congrArg (Value.int .u64) (by first | omega | (unfold IntKind.wrap; simp [IntKind.bits, IntKind.signed]; omega) | (rw [IntKind.wrap_u64]; omega) | (simp [IntKind.wrap]; omega))) (hJ.st.step (by decide) (by decide) (by decide) (by decide) (Ex.refl _)) nh)
  ·have q1 := hout 1 ob
   exact wp_mw _ rfl q1 (hK _ _ (hJ.nx hls hT rfl rfl (hJ.st.step (by decide) (by decide) (by decide) (by decide) (Ex.refl _)) nh))
  ·have q62 := hJ.iq hT (hdep ⟨13, .data⟩ (by simp) rfl) rfl _ rfl _ rfl
   clear hsz hdep hout hlat
   go_simp
   exact hK _ _ (hJ.nx hls hT rfl (by exact congrArg (Value.int .u8) (by first | omega | (unfold IntKind.wrap; simp [IntKind.bits, IntKind.signed]; omega) | (rw [IntKind.wrap_u64]; omega) | (simp [IntKind.wrap]; omega))) (hJ.st.step (by decide) (by decide) (by decide) (by decide) (Ex.refl _)) nh)
  ·have q11 := hout 11 ob
   exact wp_mw _ rfl q11 (hK _ _ (hJ.nx hls hT rfl rfl (hJ.st.step (by decide) (by decide) (by decide) (by decide) (Ex.refl _)) nh))
  ·have q52 := hJ.is hT (hdep ⟨3, .data⟩ (by simp) rfl) rfl _ rfl _ rfl
   have q61 := hJ.is hT (hdep ⟨12, .data⟩ (by simp) rfl) rfl _ rfl _ rfl
   have q63 := hJ.is hT (hdep ⟨14, .data⟩ (by simp) rfl) rfl _ rfl _ rfl
   have q64 := hJ.is hT (hdep ⟨15, .data⟩ (by simp) rfl) rfl _ rfl _ rfl
   have nt := unq hJ.ord 17 16 hun
   have nx : listed.getD 18 false = false := by
    cases hc : listed.getD 18 false with
    | false => rfl
    | true => exact absurd (hJ.ord (18, 17) (by simp) hc) (by rw [nt]; decide)
   have no : listed.getD 20 false = false := by
    cases hc : listed.getD 20 false with
    | false => rfl
    | true => exact absurd (hJ.ord (20, 18) (by simp) hc) (by rw [nx]; decide)
   rw [gd9] at q52
   rw [gd9] at q61
   rw [gd9] at q63
   rw [gd9] at q64
   clear hsz hdep hout hlat
   go_simp
   refine (close9_any k CW.out.kN ((got.length : Int) * 4 + n) (by omega) (by omega) now N0 (by omega) cp w2 (CN.out.ext hJ.st.1).1 (by rw [CL.out]; exact reqB_len Y.out.1 RR.out.1)).mono ?_
   rintro e w4 ⟨v, rfl, vo, x3⟩
   exact hK _ _ (hJ.nx hls hT rfl (by exact ⟨_, rfl⟩) (hJ.st.call (by decide) (by decide) (by decide) nt nx no x3 (ofSm_own (Sm.own_less vo hJ.st.1.size))) nh)
  ·have dd65 := hdep ⟨16, .data⟩ (by simp) rfl
   have q65 := dd65.2 _ rfl _ rfl
   have h65 := hJ.vals 16 dd65.1
   rw [hT] at h65
   have h65 : (fun zz => ∃ v : Value, zz = .tuple #[v, .int .i64 0]) (f 16) := h65
   clear dd65
   have hl16 := (hdep ⟨16, .data⟩ (by simp) rfl).1
   have hord : ∀ x ∈ ([(17, 16), (18, 17), (20, 18)] : List (Nat × Nat)), x.1 = 17 → listed.getD x.2 false = true := (by intro x hx he; simp only [List.mem_cons, List.not_mem_nil, or_false] at hx; rcases hx with rfl | rfl | rfl; all_goals first | (exact absurd he (by decide)) | assumption)
   exact wp_mw _ rfl q65 (hK _ _ (hJ.nx hls hT rfl (by exact h65) (hJ.st.tup (by decide) (by decide) (by decide)) hord))
  ·have dd48 := hdep ⟨17, .data⟩ (by simp) rfl
   have q48 := dd48.2 _ rfl _ rfl
   have h48 := hJ.vals 17 dd48.1
   rw [hT] at h48
   have h48 : (fun zz => ∃ v : Value, zz = .tuple #[v, .int .i64 0]) (f 17) := h48
   clear dd48
   have hl17 := (hdep ⟨17, .data⟩ (by simp) rfl).1
   have hord : ∀ x ∈ ([(17, 16), (18, 17), (20, 18)] : List (Nat × Nat)), x.1 = 18 → listed.getD x.2 false = true := (by intro x hx he; simp only [List.mem_cons, List.not_mem_nil, or_false] at hx; rcases hx with rfl | rfl | rfl; all_goals first | (exact absurd he (by decide)) | assumption)
   have l17 := (hdep ⟨17, .data⟩ (by simp) rfl).1
   obtain ⟨v9, e9, _, e8, _⟩ := hJ.st.2 (hJ.ord (17, 16) (by simp) l17)
   have z9 : f 17 = .tuple #[v9, .int .i64 0] := (e8 l17).trans e9
   rw [z9] at q48
   rw [gd9] at q48
   clear hsz hdep hout hlat e8 e9
   go_simp
   exact hK _ _ (hJ.nx hls hT rfl (by exact trivial) (hJ.st.ext (by decide) (by decide) (by decide) l17 z9) hord)
  ·have dd48 := hdep ⟨17, .data⟩ (by simp) rfl
   have q48 := dd48.2 _ rfl _ rfl
   have h48 := hJ.vals 17 dd48.1
   rw [hT] at h48
   have h48 : (fun zz => ∃ v : Value, zz = .tuple #[v, .int .i64 0]) (f 17) := h48
   clear dd48
   obtain ⟨v9, e9⟩ := h48
   rw [e9] at q48
   rw [gd9] at q48
   clear hsz hdep hout hlat e9
   go_simp
   exact hK _ _ (hJ.nx hls hT rfl rfl (hJ.st.step (by decide) (by decide) (by decide) (by decide) (Ex.refl _)) nh)
  ·have dd66 := hdep ⟨18, .data⟩ (by simp) rfl
   have q66 := dd66.2 _ rfl _ rfl
   have hl18 := (hdep ⟨18, .data⟩ (by simp) rfl).1
   have hord : ∀ x ∈ ([(17, 16), (18, 17), (20, 18)] : List (Nat × Nat)), x.1 = 20 → listed.getD x.2 false = true := (by intro x hx he; simp only [List.mem_cons, List.not_mem_nil, or_false] at hx; rcases hx with rfl | rfl | rfl; all_goals first | (exact absurd he (by decide)) | assumption)
   have l18 := (hdep ⟨18, .data⟩ (by simp) rfl).1
   refine wp_asg9 _ rfl (hK _ _ ?_)
   rw [show a.eval (.tmp 66) = f 18 from q66]
   exact hJ.nx hls hT rfl (by exact trivial) (hJ.st.put (by decide) (by decide) (by decide) l18) hord
  have q67 := hJ.iq hT (hdep ⟨19, .data⟩ (by simp) rfl) rfl _ rfl _ rfl
  clear hsz hdep hout hlat
  go_simp
  exact hK _ _ (hJ.na hls hT (hJ.st.step (by decide) (by decide) (by decide) (by decide) (Ex.refl _)))
 intro listed f w2 hall hJ
 have f21 := hJ.fa hT (hall 21 (by simp)) rfl
 have hst := hJ.st
 simp only [putAll, Act.put, List.setIfInBounds_toArray, List.set_cons_zero, List.set_cons_succ, Nat.zero_add, Nat.reduceAdd]
 obtain ⟨v9, _, o9, _, _, a9⟩ := hst.2 (hall 16 (by simp))
 have a9 := a9 (hall 20 (by simp))
 have x9 := hst.1
 clear hst hS0
 rw [a9]
 obtain ⟨lp, rfl, ll, ln⟩ := own_pn o9
 have LPL := Hi ll
 have LPN := Hi ln
 clear o9 ll ln a9
 rw [f21]
 clear f21
 clear hJ hall hT
 replace BW := Hi (Ex.trans BW.out x9)
 replace Y := Hi (Y.out.ext x9)
 replace YP := Hi (YP.out.ext x9)
 replace R0 := Hi (R0.out.ext x9)
 clear x9
 have c17 := (CW.out.ext BW.out).c17
 go_wp2_with ((with_reducible refine so7 [1000 + 3, 1000 + 23, 1000 + 97] ?_ ?_); (focus rfl))
 refine at9 (by go_simp) fun K0 hK => wp_bfalse _ _ rfl B rv got rfl ((CW.out.ext BW.out).ext (Ex.alloc _ _)).row (Nat.le_trans CW.out.lo (Nat.le_of_lt ((CW.out.ext BW.out).ext (Ex.alloc _ _)).blk.lt)) w2.heap.size rfl (Bk.new rfl _ _) LF.out (fun v5 w5 r1 r2 r3 => hK _ _ ?_)
 clear hK
 have XA : Ex w2 (w2.alloc (.cells #[.bool false] 4)) := Ex.alloc _ _
 have C2 := CW.out.ext BW.out
 have CA := C2.ext XA
 have T5 : Tc C rv.ownBlock w2 w5 := (Ex.tc C _ XA).trans (grownBy_tc C r2) (Or.inl rfl)
 have B5 : Bk w5 C 106 (clC n k rv).toArray := (r2.block C CA.blk.lt (ownB_ne CA.row CA.blk (by decide))).trans CA.blk
 have R5 := Hi r1
 have L5 := Hi (r3.ex (Ex.trans BW.out XA))
 have T5 := Hi T5
 have B5 := Hi B5
 have C2 := Hi C2
 clear r1 r2 r3 XA CA c17
 go_wp2_with ((with_reducible refine so7 [1000 + 3, 1000 + 23, 1000 + 97] ?_ ?_); (focus rfl))
 refine at9 (by go_simp) fun K0 hK => st_cgot _ _ C n k rv v5 C2.out.kN rfl rfl rfl (ownB_one R5.out) B5.out (fun w6 hd ho => hK _ _ ?_)
 clear hK
 have T6 := Hi (T5.out.trans (Only.tc ho (Or.inl rfl)) (Or.inl rfl) : Tc C rv.ownBlock w2 w6)
 have K6 : Hid (CI w6 B C n k v5 (got ++ [false])) := Hi ⟨hd, ownB_only R5.out B5.out (by decide) ho, C2.out.lo, C2.out.kN, C2.out.n0, C2.out.n1, by rw [List.length_append]; have := LF.out; simp; omega⟩
 clear hd ho
 replace Y := Hi (QB.tc9 Y.out T6.out C2.out.blk C2.out.row)
 replace YP := Hi (PN.tc9 YP.out T6.out C2.out.blk C2.out.row)
 replace LPN := Hi (PN.tc9 LPN.out T6.out C2.out.blk C2.out.row)
 replace R0 := Hi (QB.tc9 R0.out T6.out C2.out.blk C2.out.row)
 have TW := Hi ((Ex.tc C _ BW.out).trans T6.out (Or.inl rfl))
 go_wp2_with fail
 have hS0 : ∀ (listed : Array Bool) (f : Nat → Value), (∀ i, listed.getD i false = false) → (fun (l : Array Bool) (_ : Nat → Value) (W : World) => (l.getD 3 false = false → Ex w6 W) ∧ (l.getD 3 false = true → ∃ W0, Ex w6 W0 ∧ Only (g + 1) W0 W ∧ QB W (g + 1) yq)) listed f w6.drew := fun listed f h0 => ⟨fun _ => ex_drewN w6 1, fun e => absurd e (by rw [h0]; decide)⟩
 obtain ⟨T, hT⟩ : ∃ T : List (Value → Prop), T = [(fun zz => zz = lp.V), (fun zz => zz = yq.V), (fun zz => zz = lp.V), (fun _ => True), (fun zz => zz = .int .i64 0)] := ⟨_, rfl⟩
 refine wp_region_gen (JS T ([(3, 0), (3, 1), (3, 2)] : List (Nat × Nat)) (fun (l : Array Bool) (_ : Nat → Value) (W : World) => (l.getD 3 false = false → Ex w6 W) ∧ (l.getD 3 false = true → ∃ W0, Ex w6 W0 ∧ Only (g + 1) W0 W ∧ QB W (g + 1) yq))) (by kernel_rfl) (by kernel_rfl) (by kernel_rfl) (fitB_spec (by kernel_rfl)) (fun listed f h => JS.start listed f h (hS0 listed f h)) ?_ ?_
 ·intro i o ho
  have hi : i < 5 := (Array.getElem?_eq_some_iff.1 ho).1
  have hi' : i = 0 ∨ i = 1 ∨ i = 2 ∨ i = 3 ∨ i = 4 := by omega
  clear hi
  rcases hi' with rfl | rfl | rfl | rfl | rfl
  all_goals (simp only [List.getElem?_toArray, List.getElem?_cons_zero, List.getElem?_cons_succ, Option.some.injEq] at ho; subst ho; intro listed f a w8 hJ hsz hls hun hdep hout hlat; first | (rw [if_pos (by rfl)]; intro K hK) | skip)
  ·have q12 := hout 12 ob
   have nl := unq hJ.ord 3 0 hun
   exact wp_mw _ rfl q12 (hK _ _ (hJ.nx hls hT rfl rfl ⟨fun _ => Ex.trans (hJ.st.1 nl) (Ex.refl _), fun e => absurd e (by rw [gset (by decide), nl]; decide)⟩ nh))
  ·have q9 := hout 9 ob
   have nl := unq hJ.ord 3 1 hun
   exact ld_q (.tmp 9) i9 yq rfl q9 (Y.out.ext (hJ.st.1 nl)) (hK _ _ (hJ.nx hls hT rfl rfl ⟨fun _ => Ex.trans (hJ.st.1 nl) (Ex.refl _), fun e => absurd e (by rw [gset (by decide), nl]; decide)⟩ nh))
  ·have q81 := hJ.is hT (hdep ⟨0, .data⟩ (by simp) rfl) rfl _ rfl _ rfl
   have nl := unq hJ.ord 3 2 hun
   refine wp_asg9 _ rfl (hK _ _ ?_)
   rw [show a.eval (.tmp 81) = lp.V from q81]
   exact hJ.nx hls hT rfl rfl ⟨fun _ => Ex.trans (hJ.st.1 nl) (Ex.refl _), fun e => absurd e (by rw [gset (by decide), nl]; decide)⟩ nh
  ·have q7 := hout 7 ob
   have q82 := hJ.is hT (hdep ⟨1, .data⟩ (by simp) rfl) rfl _ rfl _ rfl
   have hl0 := (hdep ⟨0, .phase⟩ (by simp) rfl).1
   have hl1 := (hdep ⟨1, .data⟩ (by simp) rfl).1
   have hl2 := (hdep ⟨2, .chain⟩ (by simp) rfl).1
   have hord : ∀ x ∈ ([(3, 0), (3, 1), (3, 2)] : List (Nat × Nat)), x.1 = 3 → listed.getD x.2 false = true := (by intro x hx he; simp only [List.mem_cons, List.not_mem_nil, or_false] at hx; rcases hx with rfl | rfl | rfl; all_goals first | (exact absurd he (by decide)) | assumption)
   exact st_q (.tmp 7) (.tmp 82) (g + 1) yq rfl q7 q82 Y.out.1 (R0.out.2.ext (hJ.st.1 hun)) (by rw [List.size_toArray, Qt.len zeroQt_ok]) (fun w9 hd ho => hK _ _ (hJ.nx hls hT rfl (by exact trivial) ⟨fun e => (by rw [set_new (by rw [hls]; decide)] at e; cases e), fun _ => ⟨w8, hJ.st.1 hun, ho, hd⟩⟩ hord))
  have l3 := (hdep ⟨3, .chain⟩ (by simp) rfl).1
  clear hsz hdep hout hlat
  go_simp
  exact hK _ _ (hJ.na hls hT ⟨fun e => absurd e (by rw [gset (by decide), l3]; decide), fun _ => hJ.st.2 l3⟩)
 intro listed f w8 hall hJ
 have f2 := hJ.fa hT (hall 2 (by simp)) rfl
 have f4 := hJ.fa hT (hall 4 (by simp)) rfl
 have hst := hJ.st
 simp only [putAll, Act.put, List.setIfInBounds_toArray, List.set_cons_zero, List.set_cons_succ, Nat.zero_add, Nat.reduceAdd]
 obtain ⟨W0, x0, o0, d0⟩ := hst.2 (hall 3 (by simp))
 have X0 := Hi x0
 have O0 := Hi o0
 have D0 := Hi d0
 clear hst hS0 x0 o0 d0
 rw [f2, f4]
 clear f2 f4
 clear hJ hall hT
 have HR : RF = (Sm.closeL k ((got.length : Int) * 4 + n) (Sm.by8 now) (reqB RC), RC, 0) := by
  rw [HRF.out]; unfold makeF; rw [if_neg NW.out, if_pos HE.out.symm, ← HC.out]
 go_wp2_with fail
 rw [HR]
 exact bodyPost_ret (res_q3 rfl _ _ (g + 1) rfl yq D0.out) rfl ⟨⟨lp, yq, rfl, by rw [LPL.out, CL.out, YC.out], ((LPN.out.less (Nat.zero_le _)).ext X0.out).onlyT O0.out (R0.out.2.ext X0.out) (by decide), ⟨Y.out.1, (YP.out.ext X0.out).onlyT O0.out (R0.out.2.ext X0.out) (by decide)⟩, YC.out⟩, fun e => absurd rfl e, fun _ => ⟨v5, (K6.out.ext X0.out).only9 O0.out (R0.out.2.ext X0.out) (by decide) (by decide), Tc.only9 (TW.out.trans (Ex.tc C _ X0.out) (Or.inl rfl)) O0.out (by have := HG.out; omega), L5.out⟩⟩
end Go.Proofs.Ytopamplmpfndlaa.Cl
namespace Go.Proofs.Ytopamplmpfndlaa.Cl
open Go.RowKit
def RMakePost (B C : Nat) (n : Int) (k : List UInt8) (rv : Value) (got : List Bool) (R : List UInt8 × Qc × Int) (w : World) (e : Ending) (w' : World) : Prop :=
 MkTup R e w' ∧ (R.2.2 ≠ 0 → Ex w w') ∧ (R.2.2 = 0 → ∃ rv', DI w' B C n k rv' (got ++ [false]) ∧ Tc C rv.ownBlock w w' ∧ Lies w rv rv')
section
variable {o : Oper} {a : Act} {w : World} {K : Act → World → Prop} {Q : Exit → Act → World → Prop}
theorem ld_rkey (x : Operand) {B C : Nat} {n : Int} {k : List UInt8} {rv : Value} {got : List Bool} (h : DI w B C n k rv got) (ho : o.op = .load 36 x) (ha : a.eval x = .pointer (some ⟨C, 2, none⟩)) (hk : K (a.put o.dst (digV k)) w) : o.wp Try.prog a w K Q := by
 obtain ⟨dd, hd⟩ : ∃ d, Try.prog.underlying 36 = some d ∧ d.isRow = true := ⟨_, Try.underlying36, rfl⟩
 exact wp_ldp (C := rcC n got.length k rv) (Lib.byteCells k) x C 2 dd ho ha h.blk (by unfold rcC; simp) hd.1 hd.2 (by rw [Try.sizeDig, byteCells_len, h.kN]) hk
theorem st_rgot (x y : Operand) (C : Nat) (n m : Int) (k : List UInt8) (rv v : Value) (hk16 : k.length = 16) (ho : o.op = .store 97 x y) (ha : a.eval x = .pointer (some ⟨C, 18, none⟩)) (hy : a.eval y = v) (h1 : v.oneCell' = true) (h : Bk w C 99 (rcC n m k rv).toArray)
  (hk : ∀ w', Bk w' C 99 (rcC n m k v).toArray → Only C w w' → K (a.put o.dst undef) w') : o.wp Try.prog a w K Q := by
 refine wp_st1 x y C 18 v ho ha hy h (by unfold rcC; simp [byteCells_len, hk16]) (by kernel_rfl) h1 (fun w' b1 b2 => hk w' ?_ b2)
 have e : (rcC n m k rv).set 18 v = rcC n m k v := by
  obtain ⟨_, _, _, _, _, _, _, _, _, _, _, b1, b2, _, _, _, rfl⟩ := len16 hk16
  rfl
 rw [← e]; exact b1
theorem st_rnum (x y : Operand) (C : Nat) (n m z : Int) (k : List UInt8) (rv : Value) (hk16 : k.length = 16) (ho : o.op = .store 27 x y) (ha : a.eval x = .pointer (some ⟨C, 1, none⟩)) (hy : a.eval y = .int .u64 z) (h : Bk w C 99 (rcC n m k rv).toArray)
  (hk : ∀ w', Bk w' C 99 (rcC n z k rv).toArray → Only C w w' → K (a.put o.dst undef) w') : o.wp Try.prog a w K Q := by
 refine wp_st1 x y C 1 (.int .u64 z) ho ha hy h (by unfold rcC; simp [byteCells_len, hk16]) (by kernel_rfl) rfl (fun w' b1 b2 => hk w' ?_ b2)
 have e : (rcC n m k rv).set 1 (.int .u64 z) = rcC n z k rv := by
  obtain ⟨_, _, _, _, _, _, _, _, _, _, _, b1, b2, _, _, _, rfl⟩ := len16 hk16
  rfl
 rw [← e]; exact b1
end
theorem PN.td9 {w w' : World} {B0 B C : Nat} {rv : Value} {got : List Bool} {p : Pt} {cs : Array Value} (h : PN w B0 p) (k : Tc C rv.ownBlock w w') (hD : Bk w C 99 cs) (ho : ownB w B rv got) : PN w' B0 p := by
 have hb : ∀ a, p.ad = some a → a.block < w.heap.size ∧ w'.heap[a.block]? = w.heap[a.block]? := fun a e => by
  obtain ⟨_, cu, hu⟩ := h.2 a e
  refine ⟨hu.lt, k.block _ hu.lt ?_ (ownB_ne ho hu (by decide))⟩
  intro e2
  rw [e2] at hu
  exact absurd (Bk.ty hu hD) (by decide)
 refine ⟨⟨h.1.cap, h.1.nil, fun h0 => ?_⟩, fun a e => ⟨(h.2 a e).1, (h.2 a e).2.elim fun cu hc => ⟨cu, (hb a e).2.trans hc⟩⟩⟩
 obtain ⟨a, o, e, hB, hc⟩ := h.1.read h0
 refine ⟨a, o, e, Nat.lt_of_lt_of_le hB k.size, fun i hi => ?_⟩
 rw [← hc i hi]
 simp only [World.cell?, (hb _ e).2]
theorem QB.td9 {w w' : World} {g B C : Nat} {rv : Value} {got : List Bool} {y : Qt} {cs : Array Value} (h : QB w g y) (k : Tc C rv.ownBlock w w') (hD : Bk w C 99 cs) (ho : ownB w B rv got) : QB w' g y := by
 refine ⟨h.1, k.bk h.2 ?_ (ownB_ne ho h.2 (by decide))⟩
 rintro rfl
 exact absurd (Bk.ty h.2 hD) (by decide)
theorem DI.only9 {w w' : World} {B C i : Nat} {n : Int} {k : List UInt8} {rv : Value} {got : List Bool} {t : TypeId} {cs : Array Value} (h : DI w B C n k rv got) (o : Only i w w') (hb : Bk w i t cs) (h1 : t ≠ 99) (h2 : t ≠ 4) : DI w' B C n k rv got :=
 ⟨o.bk h.blk (by rintro rfl; exact h1 (Bk.ty hb h.blk)), ownB_only h.row hb h2 o, h.lo, h.kN, h.n0, h.n1, h.few⟩
def LR (ir ic it ix io : Nat) (base : World) (T L : List UInt8) (l : Array Bool) (f : Nat → Value) (W : World) : Prop :=
 LK ic it ix io base L l f W ∧ (l.getD ir false = true → ownU W base.heap.size (f ir) T)
section
variable {ir ic it ix io : Nat} {base : World} {T L : List UInt8} {l : Array Bool} {f : Nat → Value} {W W' : World}
theorem LR.start (h0 : ∀ i, l.getD i false = false) (x : Ex base W) : LR ir ic it ix io base T L l f W := ⟨LK.start h0 x, fun e => absurd e (by rw [h0]; decide)⟩
theorem LR.keep (h : LR ir ic it ix io base T L l f W) {i : Nat} {v : Value} (hr : i ≠ ir) (x : Ex W W') (k : LK ic it ix io base L (l.setIfInBounds i true) (upd f i v) W') : LR ir ic it ix io base T L (l.setIfInBounds i true) (upd f i v) W' :=
 ⟨k, fun e => by rw [gset hr] at e; rw [upd_ne _ _ (Ne.symm hr)]; exact ownU_ex x (h.2 e)⟩
theorem LR.row (h : LR ir ic it ix io base T L l f W) (hc : ir ≠ ic) (ht : ir ≠ it) (hx : ir ≠ ix) (ho : ir ≠ io) (x : Ex W W') {v : Value} (hv : ownU W' base.heap.size v T) : LR ir ic it ix io base T L (l.setIfInBounds ir true) (upd f ir v) W' :=
 ⟨h.1.step hc ht hx ho x, fun _ => by rw [upd_same]; exact hv⟩
end
theorem rmake_any (B C : Nat) (n : Int) (k : List UInt8) (rv : Value) (got : List Bool) (now : Int) (x : Wt) (w : World) (hc : DI w B C n k rv got) (hf : got.length < 1000) (hx : WI w x) : Calls Try.prog 53 #[.pointer (some ⟨C, 0, none⟩), .int .i64 now, x.V] w (RMakePost B C n k rv got (makeF n got.length k now x.ct) w) := by
 obtain ⟨es, hes⟩ : ∃ ds, ds = x.C.toArray := ⟨_, rfl⟩
 have V0 : Hid (WB ((w.alloc (.cells es 31)).alloc (.cells zeroQt.C.toArray 47)) w.heap.size x) := Hi ⟨hx.1, by rw [hes]; exact (Bk.new (by simp) _ _).more _⟩
 have R0 : Hid (QB ((w.alloc (.cells es 31)).alloc (.cells zeroQt.C.toArray 47)) (w.heap.size + 1) zeroQt) := Hi ⟨zeroQt_ok, Bk.new (by simp) _ _⟩
 have BW : Hid (Ex w ((w.alloc (.cells es 31)).alloc (.cells zeroQt.C.toArray 47))) := Hi (Ex.trans (Ex.alloc _ _) (Ex.alloc _ _))
 have CW := Hi hc
 have LF := Hi hf
 have HX := Hi hx
 obtain ⟨RF, hRF⟩ : ∃ R, R = makeF n got.length k now x.ct := ⟨_, rfl⟩
 have HRF := Hi hRF
 rw [← hRF]
 obtain ⟨RC, hRC⟩ : ∃ R, R = (reqF n got.length k x.ct).1 := ⟨_, rfl⟩
 obtain ⟨RE, hRE⟩ : ∃ R, R = (reqF n got.length k x.ct).2 := ⟨_, rfl⟩
 have HC := Hi hRC
 have HE := Hi hRE
 rw [show (Calls Try.prog 53 #[.pointer (some ⟨C, 0, none⟩), .int .i64 now, x.V] w) = (Calls Try.prog 53 #[.pointer (some ⟨C, 0, none⟩), .int .i64 now, .agg es] w) by rw [hes]; rfl]
 clear hes hc hf hx hRF hRC hRE
 by_cases h0 : now < 0
 ·go_enter Try.func53, Try.ntmps53
  go_wp2_with ((with_reducible refine so7 [1000 + 3, 1000 + 23, 1000 + 97, 1000 + 27] ?_ ?_); (focus rfl))
  (with_reducible refine ⟨?_⟩)
  first | change wpList _ _ _ _ _ ((w.alloc (.cells es 31)).alloc (.cells zeroQt.C.toArray 47)) | change Code.wp _ _ _ _ ((w.alloc (.cells es 31)).alloc (.cells zeroQt.C.toArray 47))
  generalize ((w.alloc (.cells es 31)).alloc (.cells zeroQt.C.toArray 47)) = wr at V0 R0 BW ⊢
  obtain ⟨g, hg⟩ : ∃ i, i = w.heap.size := ⟨_, rfl⟩
  rw [← hg] at V0 R0 ⊢
  have HG := Hi hg
  clear hg
  (with_reducible refine at_any ?_ ?_); (focus go_simp); refine fun K0 hK => wp_build _ _ rfl _ built_zreq (hK _ _ ?_)
  clear hK
  go_wp2_with ((with_reducible refine so7 [1000 + 3, 1000 + 23, 1000 + 97, 1000 + 27] ?_ ?_); (focus rfl))
  refine at9 (by go_simp) fun K0 hK => st_q _ _ (g + 1) zeroQt rfl rfl rfl zeroQt_ok R0.out.2 (by rw [List.size_toArray, Qt.len zeroQt_ok]) (fun w9 hd ho => hK _ _ ?_)
  clear hK
  replace BW := Hi (ho.below w.heap.size (by have := HG.out; omega) _ BW.out)
  have YD := Hi hd
  clear hd ho
  go_wp2_with fail
  have HZ : RF = ([], zeroQt.ct, 1) := by
    rw [HRF.out]; unfold makeF; rw [if_pos (Or.inl h0)]
  rw [HZ]
  exact bodyPost_ret (res_q3 rfl _ _ (g + 1) rfl zeroQt YD.out) rfl ⟨⟨nilB, zeroQt, rfl, rfl, nilB_pn _ _, ⟨zeroQt_ok, nilB_pn _ _⟩, rfl⟩, fun _ => BW.out, fun e => absurd e (by decide)⟩
 by_cases h8 : 8 ≤ now
 ·go_enter Try.func53, Try.ntmps53
  go_wp2_with ((with_reducible refine so7 [1000 + 3, 1000 + 23, 1000 + 97, 1000 + 27] ?_ ?_); (focus rfl))
  (with_reducible refine ⟨?_⟩)
  first | change wpList _ _ _ _ _ ((w.alloc (.cells es 31)).alloc (.cells zeroQt.C.toArray 47)) | change Code.wp _ _ _ _ ((w.alloc (.cells es 31)).alloc (.cells zeroQt.C.toArray 47))
  generalize ((w.alloc (.cells es 31)).alloc (.cells zeroQt.C.toArray 47)) = wr at V0 R0 BW ⊢
  obtain ⟨g, hg⟩ : ∃ i, i = w.heap.size := ⟨_, rfl⟩
  rw [← hg] at V0 R0 ⊢
  have HG := Hi hg
  clear hg
  (with_reducible refine at_any ?_ ?_); (focus go_simp); refine fun K0 hK => wp_build _ _ rfl _ built_zreq (hK _ _ ?_)
  clear hK
  go_wp2_with ((with_reducible refine so7 [1000 + 3, 1000 + 23, 1000 + 97, 1000 + 27] ?_ ?_); (focus rfl))
  refine at9 (by go_simp) fun K0 hK => st_q _ _ (g + 1) zeroQt rfl rfl rfl zeroQt_ok R0.out.2 (by rw [List.size_toArray, Qt.len zeroQt_ok]) (fun w9 hd ho => hK _ _ ?_)
  clear hK
  replace BW := Hi (ho.below w.heap.size (by have := HG.out; omega) _ BW.out)
  have YD := Hi hd
  clear hd ho
  go_wp2_with fail
  have HZ : RF = ([], zeroQt.ct, 1) := by
    rw [HRF.out]; unfold makeF; rw [if_pos (Or.inr h8)]
  rw [HZ]
  exact bodyPost_ret (res_q3 rfl _ _ (g + 1) rfl zeroQt YD.out) rfl ⟨⟨nilB, zeroQt, rfl, rfl, nilB_pn _ _, ⟨zeroQt_ok, nilB_pn _ _⟩, rfl⟩, fun _ => BW.out, fun e => absurd e (by decide)⟩
 have NW : Hid (¬ (now < 0 ∨ 8 ≤ now)) := Hi (by omega)
 go_enter Try.func53, Try.ntmps53
 go_wp2_with fail
 change Code.wp _ _ _ _ ((w.alloc (.cells es 31)).alloc (.cells zeroQt.C.toArray 47))
 generalize ((w.alloc (.cells es 31)).alloc (.cells zeroQt.C.toArray 47)) = wr at *
 obtain ⟨g, hg⟩ : ∃ i, i = w.heap.size := ⟨_, rfl⟩
 rw [← hg] at V0 R0 ⊢
 have HG := Hi hg
 clear hg
 have CI0 := Hi (CW.out.ext BW.out)
 have hS0 : ∀ (listed : Array Bool) (f : Nat → Value), (∀ i, listed.getD i false = false) → MK 17 13 14 15 18 wr RC RE listed f wr.drew := fun listed f h0 => MK.start h0 (ex_drewN wr 1)
 obtain ⟨T, hT⟩ : ∃ T : List (Value → Prop), T = [(fun zz => zz = .pointer (some ⟨C, 0, none⟩)), (fun zz => zz = .pointer (some ⟨C, 0, none⟩)), (fun zz => zz = .pointer (some ⟨C, 0, none⟩)), (fun zz => zz = .int .i64 n), (fun zz => zz = .pointer (some ⟨C, 0, none⟩)), (fun zz => zz = .pointer (some ⟨C, 0, none⟩)), (fun zz => zz = .pointer (some ⟨C, 1, none⟩)), (fun zz => zz = .int .u64 got.length), (fun zz => zz = .pointer (some ⟨C, 0, none⟩)), (fun zz => zz = .pointer (some ⟨C, 0, none⟩)), (fun zz => zz = .pointer (some ⟨C, 2, none⟩)), (fun zz => zz = digV k), (fun zz => zz = x.V), (fun zz => ∃ v : Value, zz = .tuple #[v, .int .i64 RE]), (fun zz => ∃ v : Value, zz = .tuple #[v, .int .i64 RE]), (fun _ => True), (fun zz => zz = .int .i64 RE), (fun _ => True), (fun _ => True), (fun zz => zz = .int .i64 RE)] := ⟨_, rfl⟩
 refine wp_region_gen (JS T ([(14, 13), (15, 14), (18, 0), (18, 1), (18, 2), (18, 3), (18, 4), (18, 5), (18, 6), (18, 7), (18, 8), (18, 9), (18, 10), (18, 11), (18, 12), (18, 13), (18, 14), (18, 15), (18, 17)] : List (Nat × Nat)) (MK 17 13 14 15 18 wr RC RE)) (by kernel_rfl) (by kernel_rfl) (by kernel_rfl) (fitB_spec (by kernel_rfl)) (fun listed f h => JS.start listed f h (hS0 listed f h)) ?_ ?_
 ·intro i o ho
  have hi : i < 20 := (Array.getElem?_eq_some_iff.1 ho).1
  have hi' : i = 0 ∨ i = 1 ∨ i = 2 ∨ i = 3 ∨ i = 4 ∨ i = 5 ∨ i = 6 ∨ i = 7 ∨ i = 8 ∨ i = 9 ∨ i = 10 ∨ i = 11 ∨ i = 12 ∨ i = 13 ∨ i = 14 ∨ i = 15 ∨ i = 16 ∨ i = 17 ∨ i = 18 ∨ i = 19 := by omega
  clear hi
  rcases hi' with rfl | rfl | rfl | rfl | rfl | rfl | rfl | rfl | rfl | rfl | rfl | rfl | rfl | rfl | rfl | rfl | rfl | rfl | rfl | rfl
  all_goals (simp only [List.getElem?_toArray, List.getElem?_cons_zero, List.getElem?_cons_succ, Option.some.injEq] at ho; subst ho; intro listed f a w2 hJ hsz hls hun hdep hout hlat; first | (rw [if_pos (by rfl)]; intro K hK) | skip)
  ·have q0 := hout 0 ob
   exact wp_mw _ rfl q0 (hK _ _ (hJ.nx hls hT rfl rfl (hJ.st.step (by decide) (by decide) (by decide) (by decide) (by decide) (Ex.refl _)) nh))
  ·have q21 := hJ.iq hT (hdep ⟨0, .data⟩ (by simp) rfl) rfl _ rfl _ rfl
   clear hsz hdep hout hlat
   go_simp
   exact hK _ _ (hJ.na hls hT (hJ.st.step (by decide) (by decide) (by decide) (by decide) (by decide) (Ex.refl _)))
  ·have q22 := hJ.iq hT (hdep ⟨1, .data⟩ (by simp) rfl) rfl _ rfl _ rfl
   clear hsz hdep hout hlat
   go_simp
   exact hK _ _ (hJ.na hls hT (hJ.st.step (by decide) (by decide) (by decide) (by decide) (by decide) (Ex.refl _)))
  ·have q23 := hJ.iq hT (hdep ⟨2, .data⟩ (by simp) rfl) rfl _ rfl _ rfl
   have c6 := (CI0.out.ext hJ.st.1).c0.1
   clear hsz hdep hout hlat
   go_simp
   exact hK _ _ (hJ.nx hls hT rfl rfl (hJ.st.step (by decide) (by decide) (by decide) (by decide) (by decide) (Ex.refl _)) nh)
  ·have q0 := hout 0 ob
   exact wp_mw _ rfl q0 (hK _ _ (hJ.nx hls hT rfl rfl (hJ.st.step (by decide) (by decide) (by decide) (by decide) (by decide) (Ex.refl _)) nh))
  ·have q25 := hJ.iq hT (hdep ⟨4, .data⟩ (by simp) rfl) rfl _ rfl _ rfl
   clear hsz hdep hout hlat
   go_simp
   exact hK _ _ (hJ.na hls hT (hJ.st.step (by decide) (by decide) (by decide) (by decide) (by decide) (Ex.refl _)))
  ·have q26 := hJ.iq hT (hdep ⟨5, .data⟩ (by simp) rfl) rfl _ rfl _ rfl
   clear hsz hdep hout hlat
   go_simp
   exact hK _ _ (hJ.na hls hT (hJ.st.step (by decide) (by decide) (by decide) (by decide) (by decide) (Ex.refl _)))
  ·have q27 := hJ.iq hT (hdep ⟨6, .data⟩ (by simp) rfl) rfl _ rfl _ rfl
   have c6 := (CI0.out.ext hJ.st.1).c0.2
   clear hsz hdep hout hlat
   go_simp
   exact hK _ _ (hJ.nx hls hT rfl rfl (hJ.st.step (by decide) (by decide) (by decide) (by decide) (by decide) (Ex.refl _)) nh)
  ·have q0 := hout 0 ob
   exact wp_mw _ rfl q0 (hK _ _ (hJ.nx hls hT rfl rfl (hJ.st.step (by decide) (by decide) (by decide) (by decide) (by decide) (Ex.refl _)) nh))
  ·have q29 := hJ.iq hT (hdep ⟨8, .data⟩ (by simp) rfl) rfl _ rfl _ rfl
   clear hsz hdep hout hlat
   go_simp
   exact hK _ _ (hJ.na hls hT (hJ.st.step (by decide) (by decide) (by decide) (by decide) (by decide) (Ex.refl _)))
  ·have q30 := hJ.iq hT (hdep ⟨9, .data⟩ (by simp) rfl) rfl _ rfl _ rfl
   clear hsz hdep hout hlat
   go_simp
   exact hK _ _ (hJ.na hls hT (hJ.st.step (by decide) (by decide) (by decide) (by decide) (by decide) (Ex.refl _)))
  ·have q31 := hJ.is hT (hdep ⟨10, .data⟩ (by simp) rfl) rfl _ rfl _ rfl
   exact ld_rkey (.tmp 31) (CI0.out.ext hJ.st.1) rfl q31 (hK _ _ (hJ.nx hls hT rfl rfl (hJ.st.step (by decide) (by decide) (by decide) (by decide) (by decide) (Ex.refl _)) nh))
  ·have q5 := hout 5 ob
   exact ld_w (.tmp 5) g x rfl q5 (V0.out.ext hJ.st.1) (hK _ _ (hJ.nx hls hT rfl rfl (hJ.st.step (by decide) (by decide) (by decide) (by decide) (by decide) (Ex.refl _)) nh))
  ·have q24 := hJ.is hT (hdep ⟨3, .data⟩ (by simp) rfl) rfl _ rfl _ rfl
   have q28 := hJ.is hT (hdep ⟨7, .data⟩ (by simp) rfl) rfl _ rfl _ rfl
   have q32 := hJ.is hT (hdep ⟨11, .data⟩ (by simp) rfl) rfl _ rfl _ rfl
   have q33 := hJ.is hT (hdep ⟨12, .data⟩ (by simp) rfl) rfl _ rfl _ rfl
   have nl := unq hJ.ord 18 13 hun
   have nt := unq hJ.ord 14 13 hun
   have nx : listed.getD 15 false = false := by
    cases hc : listed.getD 15 false with
    | false => rfl
    | true => exact absurd (hJ.ord (15, 14) (by simp) hc) (by rw [nt]; decide)
   rw [gd9] at q24
   rw [gd9] at q28
   rw [gd9] at q32
   rw [gd9] at q33
   have n0 := CW.out.n0
   have n1 := CW.out.n1
   have f9 := CW.out.few
   clear hsz hdep hout hlat
   go_simp
   refine (rreqst_any n got.length (by omega) (by omega) (by omega) (by omega) k CW.out.kN x w2 (HX.out.ext (Ex.trans BW.out hJ.st.1))).mono ?_
   rintro e w3 ⟨y, rfl, yi, yc, x3⟩
   rw [← HE.out]
   exact hK _ _ (hJ.nx hls hT rfl (by exact ⟨_, rfl⟩) (hJ.st.call (by decide) (by decide) (by decide) (by decide) nl nt nx x3 y yi (yc.trans HC.out.symm)) nh)
  ·have dd34 := hdep ⟨13, .data⟩ (by simp) rfl
   have q34 := dd34.2 _ rfl _ rfl
   have h34 := hJ.vals 13 dd34.1
   rw [hT] at h34
   have h34 : (fun zz => ∃ v : Value, zz = .tuple #[v, .int .i64 RE]) (f 13) := h34
   clear dd34
   have hl13 := (hdep ⟨13, .data⟩ (by simp) rfl).1
   have hord : ∀ x ∈ ([(14, 13), (15, 14), (18, 0), (18, 1), (18, 2), (18, 3), (18, 4), (18, 5), (18, 6), (18, 7), (18, 8), (18, 9), (18, 10), (18, 11), (18, 12), (18, 13), (18, 14), (18, 15), (18, 17)] : List (Nat × Nat)), x.1 = 14 → listed.getD x.2 false = true := (by intro x hx he; simp only [List.mem_cons, List.not_mem_nil, or_false] at hx; rcases hx with rfl | rfl | rfl | rfl | rfl | rfl | rfl | rfl | rfl | rfl | rfl | rfl | rfl | rfl | rfl | rfl | rfl | rfl | rfl; all_goals first | (exact absurd he (by decide)) | assumption)
   have nl := unq hJ.ord 18 14 hun
   have nx := unq hJ.ord 15 14 hun
   exact wp_mw _ rfl q34 (hK _ _ (hJ.nx hls hT rfl (by exact h34) (hJ.st.tup (by decide) (by decide) (by decide) (by decide) nl nx) hord))
  ·have dd20 := hdep ⟨14, .data⟩ (by simp) rfl
   have q20 := dd20.2 _ rfl _ rfl
   have h20 := hJ.vals 14 dd20.1
   rw [hT] at h20
   have h20 : (fun zz => ∃ v : Value, zz = .tuple #[v, .int .i64 RE]) (f 14) := h20
   clear dd20
   have hl14 := (hdep ⟨14, .data⟩ (by simp) rfl).1
   have hord : ∀ x ∈ ([(14, 13), (15, 14), (18, 0), (18, 1), (18, 2), (18, 3), (18, 4), (18, 5), (18, 6), (18, 7), (18, 8), (18, 9), (18, 10), (18, 11), (18, 12), (18, 13), (18, 14), (18, 15), (18, 17)] : List (Nat × Nat)), x.1 = 15 → listed.getD x.2 false = true := (by intro x hx he; simp only [List.mem_cons, List.not_mem_nil, or_false] at hx; rcases hx with rfl | rfl | rfl | rfl | rfl | rfl | rfl | rfl | rfl | rfl | rfl | rfl | rfl | rfl | rfl | rfl | rfl | rfl | rfl; all_goals first | (exact absurd he (by decide)) | assumption)
   have nl := unq hJ.ord 18 15 hun
   have l12 := (hdep ⟨14, .data⟩ (by simp) rfl).1
   obtain ⟨y9, e9, _, _, e8, _⟩ := (hJ.st.2.1 nl).2 (hJ.ord (14, 13) (by simp) l12)
   have z9 : f 14 = .tuple #[y9.V, .int .i64 RE] := (e8 l12).trans e9
   rw [z9] at q20
   rw [gd9] at q20
   clear hsz hdep hout hlat e8 e9
   go_simp
   exact hK _ _ (hJ.nx hls hT rfl (by exact trivial) (hJ.st.ext (by decide) (by decide) (by decide) (by decide) nl l12 z9) hord)
  ·have dd20 := hdep ⟨14, .data⟩ (by simp) rfl
   have q20 := dd20.2 _ rfl _ rfl
   have h20 := hJ.vals 14 dd20.1
   rw [hT] at h20
   have h20 : (fun zz => ∃ v : Value, zz = .tuple #[v, .int .i64 RE]) (f 14) := h20
   clear dd20
   obtain ⟨v9, e9⟩ := h20
   rw [e9] at q20
   rw [gd9] at q20
   clear hsz hdep hout hlat e9
   go_simp
   exact hK _ _ (hJ.nx hls hT rfl rfl (hJ.st.step (by decide) (by decide) (by decide) (by decide) (by decide) (Ex.refl _)) nh)
  ·have nl := unq hJ.ord 18 17 hun
   clear hsz hdep hout hlat
   go_simp
   exact hK _ _ (hJ.nx hls hT rfl (by exact trivial) (hJ.st.alloc (by decide) (by decide) (by decide) (by decide) nl) nh)
  ·have dd9 := hdep ⟨17, .data⟩ (by simp) rfl
   have q9 := dd9.2 _ rfl _ rfl
   have dd35 := hdep ⟨15, .data⟩ (by simp) rfl
   have q35 := dd35.2 _ rfl _ rfl
   have hl0 := (hdep ⟨0, .phase⟩ (by simp) rfl).1
   have hl1 := (hdep ⟨1, .phase⟩ (by simp) rfl).1
   have hl2 := (hdep ⟨2, .phase⟩ (by simp) rfl).1
   have hl3 := (hdep ⟨3, .phase⟩ (by simp) rfl).1
   have hl4 := (hdep ⟨4, .phase⟩ (by simp) rfl).1
   have hl5 := (hdep ⟨5, .phase⟩ (by simp) rfl).1
   have hl6 := (hdep ⟨6, .phase⟩ (by simp) rfl).1
   have hl7 := (hdep ⟨7, .phase⟩ (by simp) rfl).1
   have hl8 := (hdep ⟨8, .phase⟩ (by simp) rfl).1
   have hl9 := (hdep ⟨9, .phase⟩ (by simp) rfl).1
   have hl10 := (hdep ⟨10, .phase⟩ (by simp) rfl).1
   have hl11 := (hdep ⟨11, .phase⟩ (by simp) rfl).1
   have hl12 := (hdep ⟨12, .phase⟩ (by simp) rfl).1
   have hl13 := (hdep ⟨13, .chain⟩ (by simp) rfl).1
   have hl14 := (hdep ⟨14, .phase⟩ (by simp) rfl).1
   have hl15 := (hdep ⟨15, .data⟩ (by simp) rfl).1
   have hl17 := (hdep ⟨17, .data⟩ (by simp) rfl).1
   have hord : ∀ x ∈ ([(14, 13), (15, 14), (18, 0), (18, 1), (18, 2), (18, 3), (18, 4), (18, 5), (18, 6), (18, 7), (18, 8), (18, 9), (18, 10), (18, 11), (18, 12), (18, 13), (18, 14), (18, 15), (18, 17)] : List (Nat × Nat)), x.1 = 18 → listed.getD x.2 false = true := (by intro x hx he; simp only [List.mem_cons, List.not_mem_nil, or_false] at hx; rcases hx with rfl | rfl | rfl | rfl | rfl | rfl | rfl | rfl | rfl | rfl | rfl | rfl | rfl | rfl | rfl | rfl | rfl | rfl | rfl; all_goals first | (exact absurd he (by decide)) | assumption)
   have l15 := (hdep ⟨17, .data⟩ (by simp) rfl).1
   have l11 := (hdep ⟨13, .chain⟩ (by simp) rfl).1
   have l13 := (hdep ⟨15, .data⟩ (by simp) rfl).1
   obtain ⟨i9, a9, b9, c9⟩ := (hJ.st.2.1 hun).1 l15
   obtain ⟨y9, _, yi, yc, _, e8⟩ := (hJ.st.2.1 hun).2 l11
   rw [a9] at q9
   rw [e8 l13] at q35
   refine st_q (.tmp 9) (.tmp 35) i9 y9 rfl q9 q35 yi.1 c9 (by rw [List.size_toArray, Qt.len zeroQt_ok]) (fun w9 hd ho => ?_)
   exact hK _ _ (hJ.nx hls hT rfl (by exact trivial) (hJ.st.store (by decide) a9 b9 c9 yi.2 yc (by rw [hls]; decide) hd ho) hord)
  have q36 := hJ.iq hT (hdep ⟨16, .data⟩ (by simp) rfl) rfl _ rfl _ rfl
  clear hsz hdep hout hlat
  go_simp
  exact hK _ _ (hJ.na hls hT (hJ.st.step (by decide) (by decide) (by decide) (by decide) (by decide) (Ex.refl _)))
 intro listed f w2 hall hJ
 have f19 := hJ.fa hT (hall 19 (by simp)) rfl
 have hst := hJ.st
 simp only [putAll, Act.put, List.setIfInBounds_toArray, List.set_cons_zero, List.set_cons_succ, Nat.zero_add, Nat.reduceAdd]
 obtain ⟨i9, yq, a9, b9, c9, d9, e9⟩ := hst.2.2 (hall 18 (by simp))
 have x9 := hst.1
 have a9 : f 17 = .pointer (some ⟨i9, 0, none⟩) := a9
 clear hst hS0
 rw [a9]
 have Y := Hi c9
 have YP := Hi d9
 have YC := Hi e9
 have LO := Hi b9
 clear a9 b9 c9 d9 e9
 rw [f19]
 clear f19
 clear hJ hall hT
 have LT : Hid (g + 1 < i9) := Hi (Nat.lt_of_lt_of_le R0.out.lt LO.out)
 replace BW := Hi (Ex.trans BW.out x9)
 replace V0 := Hi (V0.out.ext x9)
 replace R0 := Hi (R0.out.ext x9)
 clear x9 LO
 by_cases hz : RE = 0
 rotate_left
 ·have NZ := Hi hz
  have hb : (RE == 0) = false := by simpa using hz
  go_wp2_with ((with_reducible refine so7 [1000 + 3, 1000 + 23, 1000 + 97, 1000 + 27] ?_ ?_); (focus rfl))
  refine at9 (by go_simp) fun K0 hK => wp_build _ _ rfl _ built_zreq (hK _ _ ?_)
  clear hK
  go_wp2_with ((with_reducible refine so7 [1000 + 3, 1000 + 23, 1000 + 97, 1000 + 27] ?_ ?_); (focus rfl))
  refine at9 (by go_simp) fun K0 hK => st_q _ _ (g + 1) zeroQt rfl rfl rfl zeroQt_ok R0.out.2 (by rw [List.size_toArray, Qt.len zeroQt_ok]) (fun w9 hd ho => hK _ _ ?_)
  clear hK
  replace BW := Hi (ho.below w.heap.size (by have := HG.out; omega) _ BW.out)
  have YD := Hi hd
  clear hd ho
  go_wp2_with fail
  have HZ : RF = ([], zeroQt.ct, RE) := by
    rw [HRF.out]; unfold makeF; rw [if_neg NW.out, if_neg (by rw [← HE.out]; exact NZ.out), ← HE.out, reqF_z (by rw [← HE.out]; exact NZ.out)]
  rw [HZ]
  exact bodyPost_ret (res_q3 rfl _ _ (g + 1) rfl zeroQt YD.out) rfl ⟨⟨nilB, zeroQt, rfl, rfl, nilB_pn _ _, ⟨zeroQt_ok, nilB_pn _ _⟩, rfl⟩, fun _ => BW.out, fun e => absurd e (by exact NZ.out)⟩
 have RR : Hid (yq.ct.right = true ∧ yq.ct.num = got.length ∧ yq.ct.client = n) := Hi (by rw [YC.out, HC.out]; exact reqF_right (by rw [← HE.out]; exact hz))
 have HZ := Hi hz
 subst hz
 clear CI0
 generalize w2 = w3 at *
 go_wp2_with fail
 have f9 := LF.out
 have N0 : 0 ≤ now := by have := NW.out; omega
 have N8 : now < 8 := by have := NW.out; omega
 have n0 := CW.out.n0
 have n1 := CW.out.n1
 have hS0 : ∀ (listed : Array Bool) (f : Nat → Value), (∀ i, listed.getD i false = false) → LR 18 19 20 21 23 w3 (reqB yq.ct) (Sm.closeL k ((got.length : Int) * 4 + n) (Sm.by8 now) (reqB yq.ct)) listed f w3.drew := fun listed f h0 => LR.start h0 (ex_drewN w3 1)
 obtain ⟨T, hT⟩ : ∃ T : List (Value → Prop), T = [(fun zz => zz = .pointer (some ⟨C, 0, none⟩)), (fun zz => zz = .pointer (some ⟨C, 0, none⟩)), (fun zz => zz = .pointer (some ⟨C, 2, none⟩)), (fun zz => zz = digV k), (fun zz => zz = .pointer (some ⟨C, 0, none⟩)), (fun zz => zz = .pointer (some ⟨C, 0, none⟩)), (fun zz => zz = .pointer (some ⟨C, 1, none⟩)), (fun zz => zz = .int .u64 got.length), (fun zz => zz = .int .u64 ((got.length : Int) * 4)), (fun zz => zz = .pointer (some ⟨C, 0, none⟩)), (fun zz => zz = .pointer (some ⟨C, 0, none⟩)), (fun zz => zz = .pointer (some ⟨C, 0, none⟩)), (fun zz => zz = .int .i64 n), (fun zz => zz = .int .u64 n), (fun zz => zz = .int .u64 ((got.length : Int) * 4 + n)), (fun zz => zz = .int .i64 now), (fun zz => zz = .int .u8 now), (fun zz => zz = yq.V), (fun _ => True), (fun zz => ∃ v : Value, zz = .tuple #[v, .int .i64 0]), (fun zz => ∃ v : Value, zz = .tuple #[v, .int .i64 0]), (fun _ => True), (fun zz => zz = .int .i64 0), (fun _ => True), (fun zz => zz = .int .i64 0)] := ⟨_, rfl⟩
 refine wp_region_gen (JS T ([(20, 19), (21, 20), (23, 21)] : List (Nat × Nat)) (LR 18 19 20 21 23 w3 (reqB yq.ct) (Sm.closeL k ((got.length : Int) * 4 + n) (Sm.by8 now) (reqB yq.ct)))) (by kernel_rfl) (by kernel_rfl) (by kernel_rfl) (fitB_spec (by kernel_rfl)) (fun listed f h => JS.start listed f h (hS0 listed f h)) ?_ ?_
 ·intro i o ho
  have hi : i < 25 := (Array.getElem?_eq_some_iff.1 ho).1
  have hi' : i = 0 ∨ i = 1 ∨ i = 2 ∨ i = 3 ∨ i = 4 ∨ i = 5 ∨ i = 6 ∨ i = 7 ∨ i = 8 ∨ i = 9 ∨ i = 10 ∨ i = 11 ∨ i = 12 ∨ i = 13 ∨ i = 14 ∨ i = 15 ∨ i = 16 ∨ i = 17 ∨ i = 18 ∨ i = 19 ∨ i = 20 ∨ i = 21 ∨ i = 22 ∨ i = 23 ∨ i = 24 := by omega
  clear hi
  rcases hi' with rfl | rfl | rfl | rfl | rfl | rfl | rfl | rfl | rfl | rfl | rfl | rfl | rfl | rfl | rfl | rfl | rfl | rfl | rfl | rfl | rfl | rfl | rfl | rfl | rfl
  all_goals (simp only [List.getElem?_toArray, List.getElem?_cons_zero, List.getElem?_cons_succ, Option.some.injEq] at ho; subst ho; intro listed f a w2 hJ hsz hls hun hdep hout hlat; first | (rw [if_pos (by rfl)]; intro K hK) | skip)
  ·have q0 := hout 0 ob
   exact wp_mw _ rfl q0 (hK _ _ (hJ.nx hls hT rfl rfl (hJ.st.keep (by decide) (Ex.refl _) (hJ.st.1.step (by decide) (by decide) (by decide) (by decide) (Ex.refl _))) nh))
  ·have q42 := hJ.iq hT (hdep ⟨0, .data⟩ (by simp) rfl) rfl _ rfl _ rfl
   clear hsz hdep hout hlat
   go_simp
   exact hK _ _ (hJ.na hls hT (hJ.st.keep (by decide) (Ex.refl _) (hJ.st.1.step (by decide) (by decide) (by decide) (by decide) (Ex.refl _))))
  ·have q43 := hJ.iq hT (hdep ⟨1, .data⟩ (by simp) rfl) rfl _ rfl _ rfl
   clear hsz hdep hout hlat
   go_simp
   exact hK _ _ (hJ.na hls hT (hJ.st.keep (by decide) (Ex.refl _) (hJ.st.1.step (by decide) (by decide) (by decide) (by decide) (Ex.refl _))))
  ·have q44 := hJ.is hT (hdep ⟨2, .data⟩ (by simp) rfl) rfl _ rfl _ rfl
   exact ld_rkey (.tmp 44) (CW.out.ext (Ex.trans BW.out hJ.st.1.1)) rfl q44 (hK _ _ (hJ.nx hls hT rfl rfl (hJ.st.keep (by decide) (Ex.refl _) (hJ.st.1.step (by decide) (by decide) (by decide) (by decide) (Ex.refl _))) nh))
  ·have q0 := hout 0 ob
   exact wp_mw _ rfl q0 (hK _ _ (hJ.nx hls hT rfl rfl (hJ.st.keep (by decide) (Ex.refl _) (hJ.st.1.step (by decide) (by decide) (by decide) (by decide) (Ex.refl _))) nh))
  ·have q46 := hJ.iq hT (hdep ⟨4, .data⟩ (by simp) rfl) rfl _ rfl _ rfl
   clear hsz hdep hout hlat
   go_simp
   exact hK _ _ (hJ.na hls hT (hJ.st.keep (by decide) (Ex.refl _) (hJ.st.1.step (by decide) (by decide) (by decide) (by decide) (Ex.refl _))))
  ·have q47 := hJ.iq hT (hdep ⟨5, .data⟩ (by simp) rfl) rfl _ rfl _ rfl
   clear hsz hdep hout hlat
   go_simp
   exact hK _ _ (hJ.na hls hT (hJ.st.keep (by decide) (Ex.refl _) (hJ.st.1.step (by decide) (by decide) (by decide) (by decide) (Ex.refl _))))
  ·have q48 := hJ.iq hT (hdep ⟨6, .data⟩ (by simp) rfl) rfl _ rfl _ rfl
   have c6 := (CW.out.ext (Ex.trans BW.out hJ.st.1.1)).c0.2
   clear hsz hdep hout hlat
   go_simp
   exact hK _ _ (hJ.nx hls hT rfl rfl (hJ.st.keep (by decide) (Ex.refl _) (hJ.st.1.step (by decide) (by decide) (by decide) (by decide) (Ex.refl _))) nh)
  ·have q49 := hJ.iq hT (hdep ⟨7, .data⟩ (by simp) rfl) rfl _ rfl _ rfl
   clear hsz hdep hout hlat
   go_simp
   exact hK _ _ (hJ.nx hls hT rfl (by exact congrArg (Value.int .u64) (by first | omega | (unfold IntKind.wrap; simp [IntKind.bits, IntKind.signed]; omega) | (rw [IntKind.wrap_u64]; omega) | (simp [IntKind.wrap]; omega))) (hJ.st.keep (by decide) (Ex.refl _) (hJ.st.1.step (by decide) (by decide) (by decide) (by decide) (Ex.refl _))) nh)
  ·have q0 := hout 0 ob
   exact wp_mw _ rfl q0 (hK _ _ (hJ.nx hls hT rfl rfl (hJ.st.keep (by decide) (Ex.refl _) (hJ.st.1.step (by decide) (by decide) (by decide) (by decide) (Ex.refl _))) nh))
  ·have q51 := hJ.iq hT (hdep ⟨9, .data⟩ (by simp) rfl) rfl _ rfl _ rfl
   clear hsz hdep hout hlat
   go_simp
   exact hK _ _ (hJ.na hls hT (hJ.st.keep (by decide) (Ex.refl _) (hJ.st.1.step (by decide) (by decide) (by decide) (by decide) (Ex.refl _))))
  ·have q52 := hJ.iq hT (hdep ⟨10, .data⟩ (by simp) rfl) rfl _ rfl _ rfl
   clear hsz hdep hout hlat
   go_simp
   exact hK _ _ (hJ.na hls hT (hJ.st.keep (by decide) (Ex.refl _) (hJ.st.1.step (by decide) (by decide) (by decide) (by decide) (Ex.refl _))))
  ·have q53 := hJ.iq hT (hdep ⟨11, .data⟩ (by simp) rfl) rfl _ rfl _ rfl
   have c6 := (CW.out.ext (Ex.trans BW.out hJ.st.1.1)).c0.1
   clear hsz hdep hout hlat
   go_simp
   exact hK _ _ (hJ.nx hls hT rfl rfl (hJ.st.keep (by decide) (Ex.refl _) (hJ.st.1.step (by decide) (by decide) (by decide) (by decide) (Ex.refl _))) nh)
  ·have q54 := hJ.iq hT (hdep ⟨12, .data⟩ (by simp) rfl) rfl _ rfl _ rfl
   clear hsz hdep hout hlat
   go_simp
   exact hK _ _ (hJ.nx hls hT rfl (by exact congrArg (Value.int .u64) (by first | omega | (unfold IntKind.wrap; simp [IntKind.bits, IntKind.signed]; omega) | (rw [IntKind.wrap_u64]; omega) | (simp [IntKind.wrap]; omega))) (hJ.st.keep (by decide) (Ex.refl _) (hJ.st.1.step (by decide) (by decide) (by decide) (by decide) (Ex.refl _))) nh)
  ·have q50 := hJ.iq hT (hdep ⟨8, .data⟩ (by simp) rfl) rfl _ rfl _ rfl
   have q55 := hJ.iq hT (hdep ⟨13, .data⟩ (by simp) rfl) rfl _ rfl _ rfl
   clear hsz hdep hout hlat
   go_simp
   exact hK _ _ (hJ.nx hls hT rfl (by exact congrArg (Value.int .u64) (by first | omega | (unfold IntKind.wrap; simp [IntKind.bits, IntKind.signed]; omega) | (rw [IntKind.wrap_u64]; omega) | (simp [IntKind.wrap]; omega))) (hJ.st.keep (by decide) (Ex.refl _) (hJ.st.1.step (by decide) (by decide) (by decide) (by decide) (Ex.refl _))) nh)
  ·have q1 := hout 1 ob
   exact wp_mw _ rfl q1 (hK _ _ (hJ.nx hls hT rfl rfl (hJ.st.keep (by decide) (Ex.refl _) (hJ.st.1.step (by decide) (by decide) (by decide) (by decide) (Ex.refl _))) nh))
  ·have q57 := hJ.iq hT (hdep ⟨15, .data⟩ (by simp) rfl) rfl _ rfl _ rfl
   clear hsz hdep hout hlat
   go_simp
   exact hK _ _ (hJ.nx hls hT rfl (by exact congrArg (Value.int .u8) (by first | omega | (unfold IntKind.wrap; simp [IntKind.bits, IntKind.signed]; omega) | (rw [IntKind.wrap_u64]; omega) | (simp [IntKind.wrap]; omega))) (hJ.st.keep (by decide) (Ex.refl _) (hJ.st.1.step (by decide) (by decide) (by decide) (by decide) (Ex.refl _))) nh)
  ·have q9 := hout 9 ob
   exact ld_q (.tmp 9) i9 yq rfl q9 (Y.out.ext hJ.st.1.1) (hK _ _ (hJ.nx hls hT rfl rfl (hJ.st.keep (by decide) (Ex.refl _) (hJ.st.1.step (by decide) (by decide) (by decide) (by decide) (Ex.refl _))) nh))
  ·have q59 := hJ.iq hT (hdep ⟨17, .data⟩ (by simp) rfl) rfl _ rfl _ rfl
   clear hsz hdep hout hlat
   go_simp
   refine (rreq_any yq w2 ⟨Y.out.1, ((YP.out.ext hJ.st.1.1).less (Nat.zero_le _)).1⟩ (Nat.le_trans (show yq.sec.l.length ≤ 64 from Qc.sec_le RR.out.1) (by decide))).mono ?_
   rintro e w4 ⟨v, rfl, vo, x3⟩
   exact hK _ _ (hJ.nx hls hT rfl (by exact trivial) (hJ.st.row (by decide) (by decide) (by decide) (by decide) x3 (ownU_less vo hJ.st.1.1.size)) nh)
  ·have q45 := hJ.is hT (hdep ⟨3, .data⟩ (by simp) rfl) rfl _ rfl _ rfl
   have q56 := hJ.is hT (hdep ⟨14, .data⟩ (by simp) rfl) rfl _ rfl _ rfl
   have q58 := hJ.is hT (hdep ⟨16, .data⟩ (by simp) rfl) rfl _ rfl _ rfl
   have dd60 := hdep ⟨18, .data⟩ (by simp) rfl
   have q60 := dd60.2 _ rfl _ rfl
   have nt := unq hJ.ord 20 19 hun
   have nx : listed.getD 21 false = false := by
    cases hc : listed.getD 21 false with
    | false => rfl
    | true => exact absurd (hJ.ord (21, 20) (by simp) hc) (by rw [nt]; decide)
   have no : listed.getD 23 false = false := by
    cases hc : listed.getD 23 false with
    | false => rfl
    | true => exact absurd (hJ.ord (23, 21) (by simp) hc) (by rw [nx]; decide)
   have l18 := (hdep ⟨18, .data⟩ (by simp) rfl).1
   obtain ⟨p9, e9, n9, i9, _⟩ := own_pt (hJ.st.2 l18)
   rw [e9] at q60
   rw [gd9] at q45
   rw [gd9] at q56
   rw [gd9] at q58
   rw [gd9] at q60
   clear hsz hdep hout hlat
   go_simp
   refine (rclose9_any k CW.out.kN ((got.length : Int) * 4 + n) (by omega) (by omega) now N0 (by omega) p9 w2 i9 (by rw [n9]; exact reqB_len Y.out.1 RR.out.1)).mono ?_
   rintro e w4 ⟨v, rfl, vo, x3⟩
   rw [n9] at vo
   exact hK _ _ (hJ.nx hls hT rfl (by exact ⟨_, rfl⟩) (hJ.st.keep (by decide) x3 (hJ.st.1.call (by decide) (by decide) (by decide) nt nx no x3 (ofSm_own (Sm.own_less vo hJ.st.1.1.size)))) nh)
  ·have dd61 := hdep ⟨19, .data⟩ (by simp) rfl
   have q61 := dd61.2 _ rfl _ rfl
   have h61 := hJ.vals 19 dd61.1
   rw [hT] at h61
   have h61 : (fun zz => ∃ v : Value, zz = .tuple #[v, .int .i64 0]) (f 19) := h61
   clear dd61
   have hl19 := (hdep ⟨19, .data⟩ (by simp) rfl).1
   have hord : ∀ x ∈ ([(20, 19), (21, 20), (23, 21)] : List (Nat × Nat)), x.1 = 20 → listed.getD x.2 false = true := (by intro x hx he; simp only [List.mem_cons, List.not_mem_nil, or_false] at hx; rcases hx with rfl | rfl | rfl; all_goals first | (exact absurd he (by decide)) | assumption)
   exact wp_mw _ rfl q61 (hK _ _ (hJ.nx hls hT rfl (by exact h61) (hJ.st.keep (by decide) (Ex.refl _) (hJ.st.1.tup (by decide) (by decide) (by decide))) hord))
  ·have dd41 := hdep ⟨20, .data⟩ (by simp) rfl
   have q41 := dd41.2 _ rfl _ rfl
   have h41 := hJ.vals 20 dd41.1
   rw [hT] at h41
   have h41 : (fun zz => ∃ v : Value, zz = .tuple #[v, .int .i64 0]) (f 20) := h41
   clear dd41
   have hl20 := (hdep ⟨20, .data⟩ (by simp) rfl).1
   have hord : ∀ x ∈ ([(20, 19), (21, 20), (23, 21)] : List (Nat × Nat)), x.1 = 21 → listed.getD x.2 false = true := (by intro x hx he; simp only [List.mem_cons, List.not_mem_nil, or_false] at hx; rcases hx with rfl | rfl | rfl; all_goals first | (exact absurd he (by decide)) | assumption)
   have l17 := (hdep ⟨20, .data⟩ (by simp) rfl).1
   obtain ⟨v9, e9, _, e8, _⟩ := hJ.st.1.2 (hJ.ord (20, 19) (by simp) l17)
   have z9 : f 20 = .tuple #[v9, .int .i64 0] := (e8 l17).trans e9
   rw [z9] at q41
   rw [gd9] at q41
   clear hsz hdep hout hlat e8 e9
   go_simp
   exact hK _ _ (hJ.nx hls hT rfl (by exact trivial) (hJ.st.keep (by decide) (Ex.refl _) (hJ.st.1.ext (by decide) (by decide) (by decide) l17 z9)) hord)
  ·have dd41 := hdep ⟨20, .data⟩ (by simp) rfl
   have q41 := dd41.2 _ rfl _ rfl
   have h41 := hJ.vals 20 dd41.1
   rw [hT] at h41
   have h41 : (fun zz => ∃ v : Value, zz = .tuple #[v, .int .i64 0]) (f 20) := h41
   clear dd41
   obtain ⟨v9, e9⟩ := h41
   rw [e9] at q41
   rw [gd9] at q41
   clear hsz hdep hout hlat e9
   go_simp
   exact hK _ _ (hJ.nx hls hT rfl rfl (hJ.st.keep (by decide) (Ex.refl _) (hJ.st.1.step (by decide) (by decide) (by decide) (by decide) (Ex.refl _))) nh)
  ·have dd62 := hdep ⟨21, .data⟩ (by simp) rfl
   have q62 := dd62.2 _ rfl _ rfl
   have hl21 := (hdep ⟨21, .data⟩ (by simp) rfl).1
   have hord : ∀ x ∈ ([(20, 19), (21, 20), (23, 21)] : List (Nat × Nat)), x.1 = 23 → listed.getD x.2 false = true := (by intro x hx he; simp only [List.mem_cons, List.not_mem_nil, or_false] at hx; rcases hx with rfl | rfl | rfl; all_goals first | (exact absurd he (by decide)) | assumption)
   have l18 := (hdep ⟨21, .data⟩ (by simp) rfl).1
   refine wp_asg9 _ rfl (hK _ _ ?_)
   rw [show a.eval (.tmp 62) = f 21 from q62]
   exact hJ.nx hls hT rfl (by exact trivial) (hJ.st.keep (by decide) (Ex.refl _) (hJ.st.1.put (by decide) (by decide) (by decide) l18)) hord
  have q63 := hJ.iq hT (hdep ⟨22, .data⟩ (by simp) rfl) rfl _ rfl _ rfl
  clear hsz hdep hout hlat
  go_simp
  exact hK _ _ (hJ.na hls hT (hJ.st.keep (by decide) (Ex.refl _) (hJ.st.1.step (by decide) (by decide) (by decide) (by decide) (Ex.refl _))))
 intro listed f w2 hall hJ
 have f24 := hJ.fa hT (hall 24 (by simp)) rfl
 have hst := hJ.st
 simp only [putAll, Act.put, List.setIfInBounds_toArray, List.set_cons_zero, List.set_cons_succ, Nat.zero_add, Nat.reduceAdd]
 obtain ⟨v9, _, o9, _, _, a9⟩ := hst.1.2 (hall 19 (by simp))
 have a9 := a9 (hall 23 (by simp))
 have x9 := hst.1.1
 clear hst hS0
 rw [a9]
 obtain ⟨lp, rfl, ll, ln⟩ := own_pn o9
 have LPL := Hi ll
 have LPN := Hi (ln.less (Nat.zero_le _))
 clear o9 ll ln a9
 rw [f24]
 clear f24
 clear hJ hall hT
 replace BW := Hi (Ex.trans BW.out x9)
 replace Y := Hi (Y.out.ext x9)
 replace YP := Hi (YP.out.ext x9)
 replace R0 := Hi (R0.out.ext x9)
 clear x9 n0 n1 N0 N8
 have c1 := (CW.out.ext BW.out).c0.2
 go_wp2_with ((with_reducible refine so7 [1000 + 3, 1000 + 23, 1000 + 97, 1000 + 27] ?_ ?_); (focus rfl))
 refine at9 (by go_simp) fun K0 hK => st_rnum _ _ C n got.length (got.length + 1) k rv CW.out.kN rfl rfl (by first | rfl | exact congrArg (Value.int .u64) (by first | omega | (rw [IntKind.wrap_u64]; omega) | (simp [IntKind.wrap]; omega))) (CW.out.ext BW.out).blk (fun w4 hd ho => hK _ _ ?_)
 clear hK
 have C2 := Hi (CW.out.ext BW.out)
 have B4 := Hi hd
 have R4 := Hi (ownB_only C2.out.row C2.out.blk (by decide) ho)
 have T4 : Hid (Tc C rv.ownBlock w2 w4) := Hi (Only.tc ho (Or.inl rfl))
 have S4 := Hi ho.size
 have c18 : w4.cell? ⟨C, 18, none⟩ = some rv := by
  obtain ⟨a0, a1, a2, a3, a4, a5, a6, a7, a8, a9, b0, b1, b2, b3, b4, b5, e⟩ := len16 CW.out.kN
  rw [hd.cell]; unfold rcC; rw [e]; rfl
 clear hd ho c1
 go_wp2_with ((with_reducible refine so7 [1000 + 3, 1000 + 23, 1000 + 97, 1000 + 27] ?_ ?_); (focus rfl))
 refine at9 (by go_simp) fun K0 hK => wp_bfalse _ _ rfl B rv got rfl ((Ex.alloc _ _).row R4.out) (Nat.le_trans CW.out.lo (Nat.le_of_lt (B4.out.ext (Ex.alloc _ _)).lt)) w4.heap.size rfl (Bk.new rfl _ _) LF.out (fun v5 w5 r1 r2 r3 => hK _ _ ?_)
 clear hK
 have XA : Ex w4 (w4.alloc (.cells #[.bool false] 4)) := Ex.alloc _ _
 have T5 : Tc C rv.ownBlock w2 w5 := T4.out.trans ((Ex.tc C _ XA).trans (grownBy_tc C r2) (Or.inl rfl)) (Or.inl rfl)
 have B5 : Bk w5 C 99 (rcC n (got.length + 1) k rv).toArray := (r2.block C (B4.out.ext XA).lt (ownB_ne (XA.row R4.out) (B4.out.ext XA) (by decide))).trans (B4.out.ext XA)
 have R5 := Hi r1
 have L5 : Hid (Lies w rv v5) := Hi (r3.imp id fun h g hg => Nat.le_trans (Nat.le_trans BW.out.size (by rw [← S4.out]; exact XA.size)) (h g hg))
 have T5 := Hi T5
 have B5 := Hi B5
 clear r1 r2 r3 XA c18
 go_wp2_with ((with_reducible refine so7 [1000 + 3, 1000 + 23, 1000 + 97, 1000 + 27] ?_ ?_); (focus rfl))
 refine at9 (by go_simp) fun K0 hK => st_rgot _ _ C n (got.length + 1) k rv v5 C2.out.kN rfl rfl rfl (ownB_one R5.out) B5.out (fun w6 hd ho => hK _ _ ?_)
 clear hK
 have T6 := Hi (T5.out.trans (Only.tc ho (Or.inl rfl)) (Or.inl rfl) : Tc C rv.ownBlock w2 w6)
 have K6 : Hid (DI w6 B C n k v5 (got ++ [false])) := Hi ⟨by rw [List.length_append]; exact hd, ownB_only R5.out B5.out (by decide) ho, C2.out.lo, C2.out.kN, C2.out.n0, C2.out.n1, by rw [List.length_append]; have := LF.out; simp; omega⟩
 clear hd ho
 replace Y := Hi (QB.td9 Y.out T6.out C2.out.blk C2.out.row)
 replace YP := Hi (PN.td9 YP.out T6.out C2.out.blk C2.out.row)
 replace LPN := Hi (PN.td9 LPN.out T6.out C2.out.blk C2.out.row)
 replace R0 := Hi (QB.td9 R0.out T6.out C2.out.blk C2.out.row)
 have TW := Hi ((Ex.tc C _ BW.out).trans T6.out (Or.inl rfl))
 go_wp2_with fail
 have hS0 : ∀ (listed : Array Bool) (f : Nat → Value), (∀ i, listed.getD i false = false) → (fun (l : Array Bool) (_ : Nat → Value) (W : World) => (l.getD 4 false = false → Ex w6 W) ∧ (l.getD 4 false = true → ∃ W0, Ex w6 W0 ∧ Only (g + 1) W0 W ∧ QB W (g + 1) yq)) listed f w6.drew := fun listed f h0 => ⟨fun _ => ex_drewN w6 1, fun e => absurd e (by rw [h0]; decide)⟩
 obtain ⟨T, hT⟩ : ∃ T : List (Value → Prop), T = [(fun zz => zz = lp.V), (fun zz => zz = yq.V), (fun zz => zz = .int .i64 0), (fun zz => zz = lp.V), (fun _ => True), (fun zz => zz = .int .i64 0)] := ⟨_, rfl⟩
 refine wp_region_gen (JS T ([(4, 0), (4, 1), (4, 3)] : List (Nat × Nat)) (fun (l : Array Bool) (_ : Nat → Value) (W : World) => (l.getD 4 false = false → Ex w6 W) ∧ (l.getD 4 false = true → ∃ W0, Ex w6 W0 ∧ Only (g + 1) W0 W ∧ QB W (g + 1) yq))) (by kernel_rfl) (by kernel_rfl) (by kernel_rfl) (fitB_spec (by kernel_rfl)) (fun listed f h => JS.start listed f h (hS0 listed f h)) ?_ ?_
 ·intro i o ho
  have hi : i < 6 := (Array.getElem?_eq_some_iff.1 ho).1
  have hi' : i = 0 ∨ i = 1 ∨ i = 2 ∨ i = 3 ∨ i = 4 ∨ i = 5 := by omega
  clear hi
  rcases hi' with rfl | rfl | rfl | rfl | rfl | rfl
  all_goals (simp only [List.getElem?_toArray, List.getElem?_cons_zero, List.getElem?_cons_succ, Option.some.injEq] at ho; subst ho; intro listed f a w8 hJ hsz hls hun hdep hout hlat; first | (rw [if_pos (by rfl)]; intro K hK) | skip)
  ·have q11 := hout 11 ob
   have nl := unq hJ.ord 4 0 hun
   exact wp_mw _ rfl q11 (hK _ _ (hJ.nx hls hT rfl rfl ⟨fun _ => Ex.trans (hJ.st.1 nl) (Ex.refl _), fun e => absurd e (by rw [gset (by decide), nl]; decide)⟩ nh))
  ·have q9 := hout 9 ob
   have nl := unq hJ.ord 4 1 hun
   exact ld_q (.tmp 9) i9 yq rfl q9 (Y.out.ext (hJ.st.1 nl)) (hK _ _ (hJ.nx hls hT rfl rfl ⟨fun _ => Ex.trans (hJ.st.1 nl) (Ex.refl _), fun e => absurd e (by rw [gset (by decide), nl]; decide)⟩ nh))
  ·have q12 := hout 12 ob
   have hpp : ∀ x, ((listed.getD 4 false = false → Ex w6 w8) ∧ (listed.getD 4 false = true → ∃ W0, Ex w6 W0 ∧ Only (g + 1) W0 w8 ∧ QB w8 (g + 1) yq)) → ((listed.setIfInBounds 2 true).getD 4 false = false → Ex w6 w8) ∧ ((listed.setIfInBounds 2 true).getD 4 false = true → ∃ W0, Ex w6 W0 ∧ Only (g + 1) W0 w8 ∧ QB w8 (g + 1) yq) := fun (_ : Nat) h => by rw [gset (by decide)]; exact h
   exact wp_mw _ rfl q12 (hK _ _ (hJ.nx hls hT rfl rfl (hpp 0 hJ.st) nh))
  ·have q80 := hJ.is hT (hdep ⟨0, .data⟩ (by simp) rfl) rfl _ rfl _ rfl
   have nl := unq hJ.ord 4 3 hun
   refine wp_asg9 _ rfl (hK _ _ ?_)
   rw [show a.eval (.tmp 80) = lp.V from q80]
   exact hJ.nx hls hT rfl rfl ⟨fun _ => Ex.trans (hJ.st.1 nl) (Ex.refl _), fun e => absurd e (by rw [gset (by decide), nl]; decide)⟩ nh
  ·have q7 := hout 7 ob
   have q81 := hJ.is hT (hdep ⟨1, .data⟩ (by simp) rfl) rfl _ rfl _ rfl
   have hl0 := (hdep ⟨0, .phase⟩ (by simp) rfl).1
   have hl1 := (hdep ⟨1, .data⟩ (by simp) rfl).1
   have hl3 := (hdep ⟨3, .chain⟩ (by simp) rfl).1
   have hord : ∀ x ∈ ([(4, 0), (4, 1), (4, 3)] : List (Nat × Nat)), x.1 = 4 → listed.getD x.2 false = true := (by intro x hx he; simp only [List.mem_cons, List.not_mem_nil, or_false] at hx; rcases hx with rfl | rfl | rfl; all_goals first | (exact absurd he (by decide)) | assumption)
   exact st_q (.tmp 7) (.tmp 81) (g + 1) yq rfl q7 q81 Y.out.1 (R0.out.2.ext (hJ.st.1 hun)) (by rw [List.size_toArray, Qt.len zeroQt_ok]) (fun w9 hd ho => hK _ _ (hJ.nx hls hT rfl (by exact trivial) ⟨fun e => (by rw [set_new (by rw [hls]; decide)] at e; cases e), fun _ => ⟨w8, hJ.st.1 hun, ho, hd⟩⟩ hord))
  have q82 := hJ.is hT (hdep ⟨2, .data⟩ (by simp) rfl) rfl _ rfl _ rfl
  have l3 := (hdep ⟨4, .chain⟩ (by simp) rfl).1
  rw [gd9] at q82
  clear hsz hdep hout hlat
  go_simp
  exact hK _ _ (hJ.na hls hT ⟨fun e => absurd e (by rw [gset (by decide), l3]; decide), fun _ => hJ.st.2 l3⟩)
 intro listed f w8 hall hJ
 have f3 := hJ.fa hT (hall 3 (by simp)) rfl
 have f5 := hJ.fa hT (hall 5 (by simp)) rfl
 have hst := hJ.st
 simp only [putAll, Act.put, List.setIfInBounds_toArray, List.set_cons_zero, List.set_cons_succ, Nat.zero_add, Nat.reduceAdd]
 obtain ⟨W0, x0, o0, d0⟩ := hst.2 (hall 4 (by simp))
 have X0 := Hi x0
 have O0 := Hi o0
 have D0 := Hi d0
 clear hst hS0 x0 o0 d0
 rw [f3, f5]
 clear f3 f5
 clear hJ hall hT
 have HR : RF = (Sm.closeL k ((got.length : Int) * 4 + n) (Sm.by8 now) (reqB RC), RC, 0) := by
  rw [HRF.out]; unfold makeF; rw [if_neg NW.out, if_pos HE.out.symm, ← HC.out]
 go_wp2_with fail
 rw [HR]
 exact bodyPost_ret (res_q3 rfl _ _ (g + 1) rfl yq D0.out) rfl ⟨⟨lp, yq, rfl, by rw [LPL.out, YC.out], ((LPN.out.less (Nat.zero_le _)).ext X0.out).onlyT O0.out (R0.out.2.ext X0.out) (by decide), ⟨Y.out.1, (YP.out.ext X0.out).onlyT O0.out (R0.out.2.ext X0.out) (by decide)⟩, YC.out⟩, fun e => absurd rfl e, fun _ => ⟨v5, (K6.out.ext X0.out).only9 O0.out (R0.out.2.ext X0.out) (by decide) (by decide), Tc.only9 (TW.out.trans (Ex.tc C _ X0.out) (Or.inl rfl)) O0.out (by have := HG.out; omega), L5.out⟩⟩
end Go.Proofs.Ytopamplmpfndlaa.Cl
