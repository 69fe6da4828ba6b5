/- Cp, Cr -/
import Derived.Test.YtopamplmpfndlaaEbn
set_option maxRecDepth 100000
set_option maxHeartbeats 16000000
namespace Go.Proofs.Ytopamplmpfndlaa.Cl
open Go.RowKit
theorem own8_empty (w : World) : ownU (w.alloc (.cells #[] 5)) w.heap.size (.slice (some ⟨w.heap.size, 0, none⟩) 0 0) [] := World.ownsRow_lit (base := w.heap.size) (e := 5) (size := 1) w #[] 0 (Nat.le_refl _) (Nat.zero_le _) rfl
def C10 (b : World) (i9 : Nat) (yq : Qt) (x : Wt) (listed : Array Bool) (f : Nat → Value) (W : World) : Prop :=
 (listed.getD 7 false = false → Ex b W ∧ (listed.getD 2 false = true → listed.getD 5 false = false → ownU W b.heap.size (f 2) []) ∧ (listed.getD 5 false = true → ∃ sp : Pt, f 5 = sp.V ∧ sp.l = x.sec.l ∧ PN W b.heap.size sp)) ∧
 (listed.getD 7 false = true → listed.getD 9 false = false → (∃ sp : Pt, f 5 = sp.V ∧ sp.l = x.sec.l ∧ PN W b.heap.size sp) ∧ QB W i9 { yq with lim := x.lim } ∧ Md i9 b W) ∧
 (listed.getD 9 false = true → ∃ sp : Pt, sp.l = x.sec.l ∧ PN W b.heap.size sp ∧ QB W i9 { yq with lim := x.lim, sec := sp } ∧ Md i9 b W)
theorem c10_start {b : World} {i9 : Nat} {yq : Qt} {x : Wt} (_h : QB b i9 yq) : ∀ (listed : Array Bool) (f : Nat → Value), (∀ i, listed.getD i false = false) → C10 b i9 yq x listed f b.drew := fun listed f h0 =>
 ⟨fun _ => ⟨ex_drewN b 1, fun a => absurd a (by rw [h0]; decide), fun a => absurd a (by rw [h0]; decide)⟩, fun a => absurd a (by rw [h0]; decide), fun a => absurd a (by rw [h0]; decide)⟩
theorem norm9_any (s : ByteArray) (hs : s.size ≤ 140737488351232) (w : World) : Calls Try.prog 68 #[.string s] w fun e w' => e = .returned (Sm.nrmV (Sm.signs s)) ∧ Ex w w' := Sm.refNormal_any s hs w
theorem rsalt9_any (I : List UInt8) (hI : I.length = 4) (w : World) : Calls Try.prog 32 #[digV I] w fun e w' => e = .returned (digV (Sm.sumL I)) ∧ Ex w w' := Sm.rsalt_any I hI w
theorem rdig9_any (s : ByteArray) (hs : s.size ≤ 80000000000000) (S : List UInt8) (hS : S.length = 16) (w : World) : Calls Try.prog 34 #[.string s, digV S, .int .i64 16] w fun e w' => e = .returned (digV (Sm.digsL s.data.toList S 16)) ∧ Ex w w' := Sm.rdigits_any s hs S hS 16 w
theorem rreqst_any (n m : Int) (n0 : -9223372036854775808 ≤ n) (n1 : n ≤ 9223372036854775807) (m0 : 0 ≤ m) (m1 : m < 18446744073709551616) (kl : List UInt8) (hk : kl.length = 16) (x : Wt) (w : World) (hx : WI w x) : Calls Try.prog 56 #[.int .i64 n, .int .u64 m, digV kl, x.V] w (ReqPost (reqF n m kl x.ct).1 (reqF n m kl x.ct).2 w) := by
 obtain ⟨ds, hds⟩ : ∃ ds, ds = (Lib.byteCells kl).toArray := ⟨_, rfl⟩
 obtain ⟨es, hes⟩ : ∃ ds, ds = x.C.toArray := ⟨_, rfl⟩
 have D0 : Hid (Bk (((w.alloc (.cells ds 36)).alloc (.cells es 31)).alloc (.cells zeroQt.C.toArray 47)) w.heap.size 36 (Lib.byteCells kl).toArray) := Hi (by rw [← hds]; exact ((Bk.new rfl _ _).more _).more _)
 have V0 : Hid (WB (((w.alloc (.cells ds 36)).alloc (.cells es 31)).alloc (.cells zeroQt.C.toArray 47)) (w.heap.size + 1) x) := Hi ⟨hx.1, by rw [hes]; exact (Bk.new (by simp) _ _).more _⟩
 have R0 : Hid (QB (((w.alloc (.cells ds 36)).alloc (.cells es 31)).alloc (.cells zeroQt.C.toArray 47)) (w.heap.size + 1 + 1) zeroQt) := Hi ⟨zeroQt_ok, Bk.new (by simp) _ _⟩
 have BW : Hid (Ex w (((w.alloc (.cells ds 36)).alloc (.cells es 31)).alloc (.cells zeroQt.C.toArray 47))) := Hi (Ex.trans (Ex.trans (Ex.alloc _ _) (Ex.alloc _ _)) (Ex.alloc _ _))
 have HK := Hi hk
 have HX := Hi hx
 obtain ⟨RF, hRF⟩ : ∃ R, R = reqF n m kl x.ct := ⟨_, rfl⟩
 have HRF := Hi hRF
 rw [← hRF]
 rw [show (Calls Try.prog 56 #[.int .i64 n, .int .u64 m, digV kl, x.V] w) = (Calls Try.prog 56 #[.int .i64 n, .int .u64 m, .agg ds, .agg es] w) by rw [hds, hes]; rfl]
 obtain ⟨K9, hK9⟩ : ∃ L, L = keyL n m kl := ⟨_, rfl⟩
 have HKL := Hi hK9
 have HKN : Hid (K9.length = 16) := Hi (by rw [hK9]; exact keyL_len _ _ _)
 have B9 := Hi (And.intro (And.intro n0 n1) (And.intro m0 m1))
 clear hds hes hk hx hRF hK9 n0 n1 m0 m1
 go_enter Try.func56, Try.ntmps56
 go_wp2_with ((with_reducible refine so4 [3] ?_ ?_); (focus rfl))
 (with_reducible refine ⟨?_⟩)
 change wpList _ _ _ _ _ (((w.alloc (.cells ds 36)).alloc (.cells es 31)).alloc (.cells zeroQt.C.toArray 47))
 generalize (((w.alloc (.cells ds 36)).alloc (.cells es 31)).alloc (.cells zeroQt.C.toArray 47)) = wr at *
 obtain ⟨g, hg⟩ : ∃ i, i = w.heap.size := ⟨_, rfl⟩
 rw [← hg] at D0 V0 R0 ⊢
 have HG := Hi hg
 clear hg
 obtain ⟨c0, c5, c6, c7, c8⟩ := V0.out.cells
 go_wp2_with ((with_reducible refine s7a ?_ ?_); (focus rfl))
 refine at9 (by go_simp) fun K0 hK => ld_wid _ (g + 1) x rfl rfl V0.out (hK _ _ ?_)
 clear hK
 go_wp2_with ((with_reducible refine s7a ?_ ?_); (focus rfl))
 refine at9 (by go_simp) fun K0 hK => wp_build _ _ rfl _ (built_req4 x.op x.id n m HX.out.1.idN) (hK _ _ ?_)
 clear hK
 go_wp2_with ((with_reducible refine s7a ?_ ?_); (focus rfl))
 clear c0 c5 c6 c7 c8
 obtain ⟨i9, hi9⟩ : ∃ i, i = wr.heap.size := ⟨_, rfl⟩
 refine at9 (by go_simp) fun K0 hK => st_q _ _ wr.heap.size (q1 x z16 n m) rfl rfl rfl (q1_ok HX.out.1 rfl B9.out.1.1 B9.out.1.2 B9.out.2.1 B9.out.2.2) (Bk.new rfl _ _) (by rfl) (fun w3 hd ho => hK _ _ ?_)
 clear hK
 have x9 : Ex wr w3 := ho.below wr.heap.size (Nat.le_refl _) wr (Ex.alloc wr _)
 have Y := Hi hd
 have LT : Hid (g + 1 + 1 < i9) := Hi (by have := R0.out.lt; omega)
 rw [← hi9] at Y ⊢
 clear hi9 hd ho
 replace D0 := Hi (D0.out.ext x9)
 replace BW := Hi (Ex.trans BW.out x9)
 replace V0 := Hi (V0.out.ext x9)
 replace R0 := Hi (R0.out.ext x9)
 clear x9
 obtain ⟨c0, c5, c6, c7, c8⟩ := V0.out.cells
 by_cases e1 : x.op = 1
 ·have OPE := Hi e1
  rw [e1] at c0
  clear e1
  go_wp2_with ((with_reducible refine s7a ?_ ?_); (focus rfl))
  refine (norm9_any x.pin HX.out.1.pinN _).mono ?_
  rintro e w3 ⟨rfl, x3⟩
  replace D0 := Hi (D0.out.ext x3)
  replace BW := Hi (Ex.trans BW.out x3)
  replace V0 := Hi (V0.out.ext x3)
  replace R0 := Hi (R0.out.ext x3)
  replace Y := Hi (Y.out.ext x3)
  clear x3
  clear c0 c5 c6 c7 c8
  obtain ⟨c0, c5, c6, c7, c8⟩ := V0.out.cells
  try rw [OPE.out] at c0
  cases hn : Sm.nrm (Sm.signs x.pin) with
  | none =>
   have hE : Sm.nrmV (Sm.signs x.pin) = .tuple #[.string ⟨#[]⟩, .bool false] := by unfold Sm.nrmV; rw [hn]
   rw [hE]
   have HN := Hi hn
   clear hE hn
   go_wp2_with ((with_reducible refine s7a ?_ ?_); (focus rfl))
   refine at9 (by go_simp) fun K0 hK => wp_build _ _ rfl _ built_zreq (hK _ _ ?_)
   clear hK
   go_wp2_with ((with_reducible refine s7a ?_ ?_); (focus rfl))
   refine at9 (by go_simp) fun K0 hK => st_q _ _ (g + 1 + 1) zeroQt rfl rfl rfl zeroQt_ok R0.out.2 (by rw [List.size_toArray, Qt.len zeroQt_ok]) (fun w9 hd ho => hK _ _ ?_)
   clear hK
   replace BW := Hi (ho.below w.heap.size (by have := HG.out; have := LT.out; omega) _ BW.out)
   have YD := Hi hd
   clear hd ho
   go_wp2_with fail
   exact bodyPost_ret (res_q2 rfl _ _ (g + 1 + 1) rfl zeroQt YD.out) rfl ⟨zeroQt, by rw [HRF.out]; rw [reqF_none (Or.inl OPE.out) HN.out] <;> rfl, ⟨zeroQt_ok, nilB_pn _ _⟩, by rw [HRF.out]; rw [reqF_none (Or.inl OPE.out) HN.out] <;> rfl, BW.out⟩
  | some pd =>
   have hE : Sm.nrmV (Sm.signs x.pin) = .tuple #[.string ⟨pd.toArray⟩, .bool true] := by unfold Sm.nrmV; rw [hn]
   rw [hE]
   have HN := Hi hn
   have hln := Sm.nrm_len hn
   have HPS : Hid ((⟨pd.toArray⟩ : ByteArray).size ≤ 80000000000000) := Hi (by show pd.toArray.size ≤ _; simp; omega)
   obtain ⟨PL, hPL⟩ : ∃ P, P = Sm.pinL x.pin x.id := ⟨_, rfl⟩
   have HPL : Hid (PL.length = 16) := Hi (by rw [hPL]; exact pinL_len _ _)
   have HPD : Hid (Sm.digsL (⟨pd.toArray⟩ : ByteArray).data.toList (Sm.sumL x.id) 16 = PL) := Hi (by rw [hPL]; unfold Sm.pinL; rw [hn])
   have HPE := Hi hPL
   obtain ⟨ps, hps⟩ : ∃ s : ByteArray, s = ⟨pd.toArray⟩ := ⟨_, rfl⟩
   rw [← hps] at HPS HPD ⊢
   clear hE hn hln hPL hps
   go_wp2_with ((with_reducible refine s7a ?_ ?_); (focus rfl))
   refine at9 (by go_simp) fun K0 hK => ld_wid _ (g + 1) x rfl rfl V0.out (hK _ _ ?_)
   clear hK
   go_wp2_with ((with_reducible refine s7a ?_ ?_); (focus rfl))
   refine (rsalt9_any x.id HX.out.1.idN _).mono ?_
   rintro e w4 ⟨rfl, x4⟩
   replace D0 := Hi (D0.out.ext x4)
   replace BW := Hi (Ex.trans BW.out x4)
   replace V0 := Hi (V0.out.ext x4)
   replace R0 := Hi (R0.out.ext x4)
   replace Y := Hi (Y.out.ext x4)
   clear x4
   clear c0 c5 c6 c7 c8
   obtain ⟨c0, c5, c6, c7, c8⟩ := V0.out.cells
   try rw [OPE.out] at c0
   go_wp2_with ((with_reducible refine s7a ?_ ?_); (focus rfl))
   refine (rdig9_any ps HPS.out _ (Sm.sumL_len _) _).mono ?_
   rintro e w4 ⟨rfl, x4⟩
   rw [HPD.out]
   replace D0 := Hi (D0.out.ext x4)
   replace BW := Hi (Ex.trans BW.out x4)
   replace V0 := Hi (V0.out.ext x4)
   replace R0 := Hi (R0.out.ext x4)
   replace Y := Hi (Y.out.ext x4)
   clear x4
   clear c0 c5 c6 c7 c8
   obtain ⟨c0, c5, c6, c7, c8⟩ := V0.out.cells
   try rw [OPE.out] at c0
   go_wp2_with ((with_reducible refine s7a ?_ ?_); (focus rfl))
   refine at9 (by go_simp) fun K0 hK => st_qpin _ _ i9 _ PL rfl rfl rfl HPL.out Y.out (fun w5 hd ho => hK _ _ ?_)
   clear hK
   replace BW := Hi (ho.below w.heap.size (by have := HG.out; have := LT.out; omega) _ BW.out)
   replace V0 := Hi (show WB _ (g + 1) x from ⟨V0.out.1, ho.bk V0.out.2 (by have := LT.out; omega)⟩)
   replace R0 := Hi (ho.qb R0.out (by have := LT.out; omega))
   replace D0 := Hi (ho.bk D0.out (by have := LT.out; omega))
   replace Y := Hi hd
   clear hd ho
   clear c0 c5 c6 c7 c8
   obtain ⟨c0, c5, c6, c7, c8⟩ := V0.out.cells
   try rw [OPE.out] at c0
   go_wp2_with ((with_reducible refine s7a ?_ ?_); (focus rfl))
   refine at9 (by go_simp) fun K0 hK => wp_cvs9 _ x.own rfl rfl (fun op w3 ol oi x3 => hK _ _ ?_)
   clear hK
   have OI := Hi oi
   have OL := Hi ol
   clear oi ol
   replace D0 := Hi (D0.out.ext x3)
   replace BW := Hi (Ex.trans BW.out x3)
   replace V0 := Hi (V0.out.ext x3)
   replace R0 := Hi (R0.out.ext x3)
   replace Y := Hi (Y.out.ext x3)
   clear x3
   clear c0 c5 c6 c7 c8
   obtain ⟨c0, c5, c6, c7, c8⟩ := V0.out.cells
   try rw [OPE.out] at c0
   go_wp2_with ((with_reducible refine s7a ?_ ?_); (focus rfl))
   refine (rsum9_any op _ OI.out (by rw [OL.out, Array.length_toList]; exact Nat.lt_succ_of_le HX.out.1.ownN)).mono ?_
   rintro e w3 ⟨rfl, x3⟩
   rw [OL.out]
   clear OI
   replace D0 := Hi (D0.out.ext x3)
   replace BW := Hi (Ex.trans BW.out x3)
   replace V0 := Hi (V0.out.ext x3)
   replace R0 := Hi (R0.out.ext x3)
   replace Y := Hi (Y.out.ext x3)
   clear x3
   clear c0 c5 c6 c7 c8
   obtain ⟨c0, c5, c6, c7, c8⟩ := V0.out.cells
   try rw [OPE.out] at c0
   go_wp2_with ((with_reducible refine s7a ?_ ?_); (focus rfl))
   refine at9 (by go_simp) fun K0 hK => st_qown _ _ i9 _ (Sm.sumL x.own.data.toList) rfl rfl rfl (Sm.sumL_len _) Y.out (fun w5 hd ho => hK _ _ ?_)
   clear hK
   replace BW := Hi (ho.below w.heap.size (by have := HG.out; have := LT.out; omega) _ BW.out)
   replace V0 := Hi (show WB _ (g + 1) x from ⟨V0.out.1, ho.bk V0.out.2 (by have := LT.out; omega)⟩)
   replace R0 := Hi (ho.qb R0.out (by have := LT.out; omega))
   replace D0 := Hi (ho.bk D0.out (by have := LT.out; omega))
   replace Y := Hi hd
   clear hd ho
   clear c0 c5 c6 c7 c8
   obtain ⟨c0, c5, c6, c7, c8⟩ := V0.out.cells
   try rw [OPE.out] at c0
   go_wp2_with ((with_reducible refine s7a ?_ ?_); (focus rfl))
   obtain ⟨yq, hyq⟩ : ∃ y : Qt, y = Qt.mk x.op x.id PL nilB 0 (Sm.sumL x.own.data.toList) z16 n m := ⟨_, rfl⟩
   replace Y : Hid (QB w5 i9 yq) := Hi (by rw [hyq]; exact Y.out)
   have HYQ := Hi hyq
   have HI9 := Hi Y.out.lt
   have SI := Hi (HX.out.2.ext BW.out)
   have hS0 := c10_start (x := x) Y.out
   clear hyq c0 c5 c6 c7 c8
   obtain ⟨T, hT⟩ : ∃ T : List (Value → Prop), T = [(fun zz => zz = .pointer (some ⟨g + 1, 7, none⟩)), (fun zz => zz = .int .i64 x.lim), (fun _ => True), (fun zz => zz = .pointer (some ⟨g + 1, 6, none⟩)), (fun zz => zz = x.sec.V), (fun _ => True), (fun zz => zz = .pointer (some ⟨i9, 22, none⟩)), (fun _ => True), (fun zz => zz = .pointer (some ⟨i9, 21, none⟩)), (fun _ => True)] := ⟨_, rfl⟩
   refine wp_region_gen (JS T ([(5, 2), (5, 4), (4, 3), (7, 0), (7, 1), (7, 5), (7, 6), (8, 7), (9, 7), (9, 8), (9, 5)] : List (Nat × Nat)) (C10 w5 i9 yq x)) (by kernel_rfl) (by kernel_rfl) (by kernel_rfl) (fitB_spec (by kernel_rfl)) (fun listed f h => JS.start listed f h (hS0 listed f h)) ?_ ?_
   ·intro i o ho
    have hi : i < 10 := (Array.getElem?_eq_some_iff.1 ho).1
    have hi' : i = 0 ∨ i = 1 ∨ i = 2 ∨ i = 3 ∨ i = 4 ∨ i = 5 ∨ i = 6 ∨ i = 7 ∨ i = 8 ∨ i = 9 := by omega
    clear hi
    rcases hi' with rfl | rfl | rfl | rfl | rfl | rfl | rfl | rfl | rfl | rfl
    all_goals (simp only [List.getElem?_toArray, List.getElem?_cons_zero, List.getElem?_cons_succ, Option.some.injEq] at ho; subst ho; intro listed f a w2 hJ hsz hls hun hdep hout hlat; first | (rw [if_pos (by rfl)]; intro K hK) | skip)
    ·have q7 := hout 7 ob
     have n7 := unq hJ.ord 7 0 hun
     have n9 := unq hJ.ord 9 7 (unq hJ.ord 7 0 hun)
     rw [gd9] at q7
     clear hsz hdep hout hlat
     go_simp
     exact hK _ _ (hJ.na hls hT ⟨fun _ => ⟨(hJ.st.1 n7).1, fun a b => by rw [gset (by decide)] at a b; rw [upd_ne _ _ (by decide)]; exact (hJ.st.1 n7).2.1 a b, fun a => by rw [gset (by decide)] at a; rw [upd_ne _ _ (by decide)]; exact (hJ.st.1 n7).2.2 a⟩, fun a => absurd a (by rw [gset (by decide), n7]; decide), fun a => absurd a (by rw [gset (by decide), n9]; decide)⟩)
    ·have q74 := hJ.is hT (hdep ⟨0, .data⟩ (by simp) rfl) rfl _ rfl _ rfl
     have n7 := unq hJ.ord 7 1 hun
     have n9 := unq hJ.ord 9 7 (unq hJ.ord 7 1 hun)
     rw [gd9] at q74
     have c6 := (V0.out.ext (hJ.st.1 n7).1).cells.2.2.2.1
     have HF := Hi (hK (.int .i64 x.lim) w2 (hJ.nx hls hT rfl rfl ⟨fun _ => ⟨(hJ.st.1 n7).1, fun a b => by rw [gset (by decide)] at a b; rw [upd_ne _ _ (by decide)]; exact (hJ.st.1 n7).2.1 a b, fun a => by rw [gset (by decide)] at a; rw [upd_ne _ _ (by decide)]; exact (hJ.st.1 n7).2.2 a⟩, fun a => absurd a (by rw [gset (by decide), n7]; decide), fun a => absurd a (by rw [gset (by decide), n9]; decide)⟩ nh))
     clear hsz hdep hout hlat hJ hK
     go_simp
     exact HF.out
    ·have n7 := unq hJ.ord 7 5 (unq hJ.ord 5 2 hun)
     have n9 := unq hJ.ord 9 7 (unq hJ.ord 7 5 (unq hJ.ord 5 2 hun))
     have n5 := unq hJ.ord 5 2 hun
     have HF := Hi (hK (.slice (some ⟨w2.heap.size, 0, none⟩) 0 0) (w2.alloc (.cells #[] 5)) (hJ.nx hls hT rfl (by exact trivial) ⟨fun _ => ⟨Ex.trans (hJ.st.1 n7).1 (Ex.alloc _ _), fun _ _ => by rw [upd_same]; exact ownU_less (own8_empty w2) (hJ.st.1 n7).1.size, fun a => absurd a (by rw [gset (by decide), n5]; decide)⟩, fun a => absurd a (by rw [gset (by decide), n7]; decide), fun a => absurd a (by rw [gset (by decide), n9]; decide)⟩ nh))
     clear hsz hdep hout hlat hJ hK
     go_simp
     exact HF.out
    ·have q7 := hout 7 ob
     have n7 := unq hJ.ord 7 5 (unq hJ.ord 5 4 (unq hJ.ord 4 3 hun))
     have n9 := unq hJ.ord 9 7 (unq hJ.ord 7 5 (unq hJ.ord 5 4 (unq hJ.ord 4 3 hun)))
     rw [gd9] at q7
     clear hsz hdep hout hlat
     go_simp
     exact hK _ _ (hJ.na hls hT ⟨fun _ => ⟨(hJ.st.1 n7).1, fun a b => by rw [gset (by decide)] at a b; rw [upd_ne _ _ (by decide)]; exact (hJ.st.1 n7).2.1 a b, fun a => by rw [gset (by decide)] at a; rw [upd_ne _ _ (by decide)]; exact (hJ.st.1 n7).2.2 a⟩, fun a => absurd a (by rw [gset (by decide), n7]; decide), fun a => absurd a (by rw [gset (by decide), n9]; decide)⟩)
    ·have q77 := hJ.is hT (hdep ⟨3, .data⟩ (by simp) rfl) rfl _ rfl _ rfl
     have hl3 := (hdep ⟨3, .data⟩ (by simp) rfl).1
     have hord : ∀ x ∈ ([(5, 2), (5, 4), (4, 3), (7, 0), (7, 1), (7, 5), (7, 6), (8, 7), (9, 7), (9, 8), (9, 5)] : List (Nat × Nat)), x.1 = 4 → listed.getD x.2 false = true := (by intro x hx he; simp only [List.mem_cons, List.not_mem_nil, or_false] at hx; rcases hx with rfl | rfl | rfl | rfl | rfl | rfl | rfl | rfl | rfl | rfl | rfl; all_goals first | (exact absurd he (by decide)) | assumption)
     have n7 := unq hJ.ord 7 5 (unq hJ.ord 5 4 hun)
     have n9 := unq hJ.ord 9 7 (unq hJ.ord 7 5 (unq hJ.ord 5 4 hun))
     rw [gd9] at q77
     have c6 := (V0.out.ext (hJ.st.1 n7).1).cells.2.2.1
     rw [show x.sec.V = .slice x.sec.ad x.sec.l.length x.sec.cap from rfl] at c6
     have HF := Hi (hK x.sec.V w2 (hJ.nx hls hT rfl rfl ⟨fun _ => ⟨(hJ.st.1 n7).1, fun a b => by rw [gset (by decide)] at a b; rw [upd_ne _ _ (by decide)]; exact (hJ.st.1 n7).2.1 a b, fun a => by rw [gset (by decide)] at a; rw [upd_ne _ _ (by decide)]; exact (hJ.st.1 n7).2.2 a⟩, fun a => absurd a (by rw [gset (by decide), n7]; decide), fun a => absurd a (by rw [gset (by decide), n9]; decide)⟩ hord))
     clear hsz hdep hout hlat hJ hK
     go_simp
     exact HF.out
    ·have dd76 := hdep ⟨2, .data⟩ (by simp) rfl
     have q76 := dd76.2 _ rfl _ rfl
     have q78 := hJ.is hT (hdep ⟨4, .data⟩ (by simp) rfl) rfl _ rfl _ rfl
     have hl2 := (hdep ⟨2, .data⟩ (by simp) rfl).1
     have hl4 := (hdep ⟨4, .data⟩ (by simp) rfl).1
     have hord : ∀ x ∈ ([(5, 2), (5, 4), (4, 3), (7, 0), (7, 1), (7, 5), (7, 6), (8, 7), (9, 7), (9, 8), (9, 5)] : List (Nat × Nat)), x.1 = 5 → listed.getD x.2 false = true := (by intro x hx he; simp only [List.mem_cons, List.not_mem_nil, or_false] at hx; rcases hx with rfl | rfl | rfl | rfl | rfl | rfl | rfl | rfl | rfl | rfl | rfl; all_goals first | (exact absurd he (by decide)) | assumption)
     have n7 := unq hJ.ord 7 5 hun
     have n9 := unq hJ.ord 9 7 (unq hJ.ord 7 5 hun)
     have hown := (hJ.st.1 n7).2.1 (hdep ⟨2, .data⟩ (by simp) rfl).1 hun
     have hx2 := (hJ.st.1 n7).1
     refine wp_cat (.tmp 76) (.tmp 78) rfl w5.heap.size (f 2) [] q76 hown hx2.size x.sec q78 (SI.out.ext hx2) (by show 0 + x.sec.l.length ≤ _; have := HX.out.1.secN; omega) (fun v8 w8 o8 g8 l8 => hK _ _ (hJ.nx hls hT rfl (by exact trivial) ⟨fun _ => ⟨hx2.grown g8 hx2.size (fun j hj => (World.ownsRow.lt hown j hj).1), fun _ b => absurd b (by rw [set_new (by rw [hls]; decide)]; decide), fun _ => by obtain ⟨sp, e1, e2, e3⟩ := own_pn o8; exact ⟨sp, by rw [upd_same]; exact e1, e2, e3⟩⟩, fun a => absurd a (by rw [gset (by decide), n7]; decide), fun a => absurd a (by rw [gset (by decide), n9]; decide)⟩ hord))
    ·have q10 := hout 10 ob
     have n7 := unq hJ.ord 7 6 hun
     have n9 := unq hJ.ord 9 7 (unq hJ.ord 7 6 hun)
     rw [gd9] at q10
     clear hsz hdep hout hlat
     go_simp
     exact hK _ _ (hJ.na hls hT ⟨fun _ => ⟨(hJ.st.1 n7).1, fun a b => by rw [gset (by decide)] at a b; rw [upd_ne _ _ (by decide)]; exact (hJ.st.1 n7).2.1 a b, fun a => by rw [gset (by decide)] at a; rw [upd_ne _ _ (by decide)]; exact (hJ.st.1 n7).2.2 a⟩, fun a => absurd a (by rw [gset (by decide), n7]; decide), fun a => absurd a (by rw [gset (by decide), n9]; decide)⟩)
    ·have q80 := hJ.is hT (hdep ⟨6, .data⟩ (by simp) rfl) rfl _ rfl _ rfl
     have q75 := hJ.is hT (hdep ⟨1, .data⟩ (by simp) rfl) rfl _ rfl _ rfl
     have hl0 := (hdep ⟨0, .phase⟩ (by simp) rfl).1
     have hl1 := (hdep ⟨1, .data⟩ (by simp) rfl).1
     have hl5 := (hdep ⟨5, .chain⟩ (by simp) rfl).1
     have hl6 := (hdep ⟨6, .data⟩ (by simp) rfl).1
     have hord : ∀ x ∈ ([(5, 2), (5, 4), (4, 3), (7, 0), (7, 1), (7, 5), (7, 6), (8, 7), (9, 7), (9, 8), (9, 5)] : List (Nat × Nat)), x.1 = 7 → listed.getD x.2 false = true := (by intro x hx he; simp only [List.mem_cons, List.not_mem_nil, or_false] at hx; rcases hx with rfl | rfl | rfl | rfl | rfl | rfl | rfl | rfl | rfl | rfl | rfl; all_goals first | (exact absurd he (by decide)) | assumption)
     have n9 := unq hJ.ord 9 7 hun
     have hA := hJ.st.1 hun
     have hx2 := hA.1
     obtain ⟨sp, e1, e2, e3⟩ := hA.2.2 (hdep ⟨5, .chain⟩ (by simp) rfl).1
     have hY := Y.out.ext hx2
     refine st_qlim (by kernel_rfl) (.tmp 80) (.tmp 75) i9 yq x.lim rfl q80 q75 HX.out.1.lim0 HX.out.1.lim1 hY (fun w8 hd ho => hK _ _ (hJ.nx hls hT rfl (by exact trivial) ⟨fun a => absurd a (by rw [set_new (by rw [hls]; decide)]; decide), fun _ _ => ⟨⟨sp, by rw [upd_ne _ _ (by decide)]; exact e1, e2, e3.only ho HI9.out⟩, hd, (hx2.md (Nat.le_of_lt HI9.out)).trans ho.md⟩, fun a => absurd a (by rw [gset (by decide), n9]; decide)⟩ hord))
    ·have q10 := hout 10 ob
     have hl7 := (hdep ⟨7, .phase⟩ (by simp) rfl).1
     have hord : ∀ x ∈ ([(5, 2), (5, 4), (4, 3), (7, 0), (7, 1), (7, 5), (7, 6), (8, 7), (9, 7), (9, 8), (9, 5)] : List (Nat × Nat)), x.1 = 8 → listed.getD x.2 false = true := (by intro x hx he; simp only [List.mem_cons, List.not_mem_nil, or_false] at hx; rcases hx with rfl | rfl | rfl | rfl | rfl | rfl | rfl | rfl | rfl | rfl | rfl; all_goals first | (exact absurd he (by decide)) | assumption)
     have n9 := unq hJ.ord 9 8 hun
     rw [gd9] at q10
     have l7 := (hdep ⟨7, .phase⟩ (by simp) rfl).1
     have HF := Hi (hK (.pointer (some ⟨i9, 21, none⟩)) w2 (hJ.nx hls hT rfl rfl ⟨fun a => absurd a (by rw [gset (by decide), l7]; decide), fun _ b => by rw [gset (by decide)] at b; rw [upd_ne _ _ (by decide)]; exact hJ.st.2.1 l7 b, fun a => absurd a (by rw [gset (by decide), n9]; decide)⟩ hord))
     clear hsz hdep hout hlat hJ hK
     go_simp
     exact HF.out
    ·have q81 := hJ.is hT (hdep ⟨8, .data⟩ (by simp) rfl) rfl _ rfl _ rfl
     have dd79 := hdep ⟨5, .data⟩ (by simp) rfl
     have q79 := dd79.2 _ rfl _ rfl
     have hl7 := (hdep ⟨7, .chain⟩ (by simp) rfl).1
     have hl8 := (hdep ⟨8, .data⟩ (by simp) rfl).1
     have hl5 := (hdep ⟨5, .data⟩ (by simp) rfl).1
     have hord : ∀ x ∈ ([(5, 2), (5, 4), (4, 3), (7, 0), (7, 1), (7, 5), (7, 6), (8, 7), (9, 7), (9, 8), (9, 5)] : List (Nat × Nat)), x.1 = 9 → listed.getD x.2 false = true := (by intro x hx he; simp only [List.mem_cons, List.not_mem_nil, or_false] at hx; rcases hx with rfl | rfl | rfl | rfl | rfl | rfl | rfl | rfl | rfl | rfl | rfl; all_goals first | (exact absurd he (by decide)) | assumption)
     have l7 := (hdep ⟨7, .chain⟩ (by simp) rfl).1
     obtain ⟨⟨sp, e1, e2, e3⟩, hY, hM⟩ := hJ.st.2.1 l7 hun
     rw [e1] at q79
     refine st_qsec (by kernel_rfl) (.tmp 81) (.tmp 79) i9 _ sp rfl q81 q79 hY (fun w8 hd ho => hK _ _ (hJ.nx hls hT rfl (by exact trivial) ⟨fun a => absurd a (by rw [gset (by decide), l7]; decide), fun _ b => absurd b (by rw [set_new (by rw [hls]; decide)]; decide), fun _ => ⟨sp, e2, e3.only ho HI9.out, hd, hM.trans ho.md⟩⟩ hord))
   ·intro listed f w2 hall hJ
    have hst := hJ.st
    simp only [putAll, Act.put, List.setIfInBounds_toArray, List.set_cons_zero, List.set_cons_succ, Nat.zero_add, Nat.reduceAdd]
    obtain ⟨sp, sl, sn, hd, hm⟩ := hst.2.2 (hall 9 (by simp))
    have SL := Hi sl
    have SN := Hi sn
    clear hst hS0
    clear hJ hall hT
    replace BW := Hi (Md.ex hm BW.out (by have := HG.out; have := LT.out; omega))
    replace V0 := Hi (show WB w2 (g + 1) x from ⟨V0.out.1, hm.bk V0.out.2 (by have := LT.out; omega)⟩)
    replace R0 := Hi (hm.qb R0.out (by have := LT.out; omega))
    replace D0 := Hi (hm.bk D0.out (by have := LT.out; omega))
    replace Y := Hi hd
    rw [HYQ.out] at Y
    clear hd hm sl sn HYQ HI9 SI
    obtain ⟨c0, c5, c6, c7, c8⟩ := V0.out.cells
    try rw [OPE.out] at c0
    go_wp2_with ((with_reducible refine s7a ?_ ?_); (focus rfl))
    refine at9 (by go_simp) fun K0 hK => ld_dgb _ g kl rfl rfl HK.out D0.out (hK _ _ ?_)
    clear hK
    go_wp2_with ((with_reducible refine s7a ?_ ?_); (focus rfl))
    refine (rkeyof_any n m B9.out.2.1 B9.out.2.2 kl HK.out _).mono ?_
    rintro e w3 ⟨rfl, x3⟩
    rw [← HKL.out]
    replace D0 := Hi (D0.out.ext x3)
    replace BW := Hi (Ex.trans BW.out x3)
    replace V0 := Hi (V0.out.ext x3)
    replace R0 := Hi (R0.out.ext x3)
    replace Y := Hi (Y.out.ext x3)
    replace SN := Hi (SN.out.ext x3)
    clear x3
    clear c0 c5 c6 c7 c8
    obtain ⟨c0, c5, c6, c7, c8⟩ := V0.out.cells
    try rw [OPE.out] at c0
    go_wp2_with ((with_reducible refine s7a ?_ ?_); (focus rfl))
    refine at9 (by go_simp) fun K0 hK => st_qkey _ _ i9 _ K9 rfl rfl rfl HKN.out Y.out (fun w5 hd ho => hK _ _ ?_)
    clear hK
    replace BW := Hi (ho.below w.heap.size (by have := HG.out; have := LT.out; omega) _ BW.out)
    replace V0 := Hi (show WB _ (g + 1) x from ⟨V0.out.1, ho.bk V0.out.2 (by have := LT.out; omega)⟩)
    replace R0 := Hi (ho.qb R0.out (by have := LT.out; omega))
    replace D0 := Hi (ho.bk D0.out (by have := LT.out; omega))
    replace SN := Hi (SN.out.onlyT ho Y.out.2 (by decide))
    replace Y := Hi hd
    clear hd ho
    clear c0 c5 c6 c7 c8
    obtain ⟨c0, c5, c6, c7, c8⟩ := V0.out.cells
    try rw [OPE.out] at c0
    go_wp2_with ((with_reducible refine s7a ?_ ?_); (focus rfl))
    obtain ⟨y, hy⟩ : ∃ y : Qt, y = (Qt.mk x.op x.id PL sp x.lim (Sm.sumL x.own.data.toList) K9 n m) := ⟨_, rfl⟩
    replace Y : Hid (QB _ i9 y) := Hi (by rw [hy]; exact Y.out)
    have HC : Hid (reqF n m kl x.ct = if y.ct.right = true then (y.ct, 0) else (zeroQt.ct, 1)) := Hi (by rw [reqF_1 OPE.out HN.out, hy]; simp only [Qt.ct, Wt.ct, HPE.out, HKL.out, SL.out]; rfl)
    have YI : Hid (PN _ 0 y.sec) := Hi (by rw [hy]; exact SN.out.less (Nat.zero_le _))
    clear hy
    refine at9 (by go_simp) fun K0 hK => ld_q _ i9 y rfl rfl Y.out (hK _ _ ?_)
    clear hK
    go_wp2_with ((with_reducible refine s7a ?_ ?_); (focus rfl))
    refine (rqright_any y _ ⟨Y.out.1, YI.out.1⟩).mono ?_
    rintro e w6 ⟨rfl, x6⟩
    obtain ⟨b, hb⟩ : ∃ b, b = y.ct.right := ⟨_, rfl⟩
    rw [← hb]
    rw [← hb] at HC
    clear hb
    replace YI := Hi (YI.out.ext x6)
    replace D0 := Hi (D0.out.ext x6)
    replace BW := Hi (Ex.trans BW.out x6)
    replace V0 := Hi (V0.out.ext x6)
    replace R0 := Hi (R0.out.ext x6)
    replace Y := Hi (Y.out.ext x6)
    clear x6
    clear c0 c5 c6 c7 c8
    obtain ⟨c0, c5, c6, c7, c8⟩ := V0.out.cells
    try rw [OPE.out] at c0
    cases b
    ·go_wp2_with ((with_reducible refine s7a ?_ ?_); (focus rfl))
     refine at9 (by go_simp) fun K0 hK => wp_build _ _ rfl _ built_zreq (hK _ _ ?_)
     clear hK
     go_wp2_with ((with_reducible refine s7a ?_ ?_); (focus rfl))
     refine at9 (by go_simp) fun K0 hK => st_q _ _ (g + 1 + 1) zeroQt rfl rfl rfl zeroQt_ok R0.out.2 (by rw [List.size_toArray, Qt.len zeroQt_ok]) (fun w9 hd ho => hK _ _ ?_)
     clear hK
     replace BW := Hi (ho.below w.heap.size (by have := HG.out; have := LT.out; omega) _ BW.out)
     have YD := Hi hd
     clear hd ho
     go_wp2_with fail
     exact bodyPost_ret (res_q2 rfl _ _ (g + 1 + 1) rfl zeroQt YD.out) rfl ⟨zeroQt, by rw [HRF.out]; rw [HC.out] <;> rfl, ⟨zeroQt_ok, nilB_pn _ _⟩, by rw [HRF.out]; rw [HC.out] <;> rfl, BW.out⟩
    ·go_wp2_with ((with_reducible refine s7a ?_ ?_); (focus rfl))
     refine at9 (by go_simp) fun K0 hK => ld_q _ i9 y rfl rfl Y.out (hK _ _ ?_)
     clear hK
     go_wp2_with ((with_reducible refine s7a ?_ ?_); (focus rfl))
     refine at9 (by go_simp) fun K0 hK => st_q _ _ (g + 1 + 1) y rfl rfl rfl Y.out.1 R0.out.2 (by rw [List.size_toArray, Qt.len zeroQt_ok]) (fun w9 hd ho => hK _ _ ?_)
     clear hK
     replace BW := Hi (ho.below w.heap.size (by have := HG.out; have := LT.out; omega) _ BW.out)
     have YD := Hi hd
     have YO := Hi Y.out.1
     have YF := Hi (YI.out.onlyT ho R0.out.2 (by decide))
     clear hd ho
     go_wp2_with fail
     exact bodyPost_ret (res_q2 rfl _ _ (g + 1 + 1) rfl y YD.out) rfl ⟨y, by rw [HRF.out, HC.out]; rfl, ⟨YO.out, YF.out⟩, by rw [HRF.out, HC.out]; rfl, BW.out⟩
 by_cases e2 : x.op = 2
 ·have OPE := Hi e2
  clear e1
  rw [e2] at c0
  clear e2
  go_wp2_with ((with_reducible refine s7a ?_ ?_); (focus rfl))
  refine (norm9_any x.pin HX.out.1.pinN _).mono ?_
  rintro e w3 ⟨rfl, x3⟩
  replace D0 := Hi (D0.out.ext x3)
  replace BW := Hi (Ex.trans BW.out x3)
  replace V0 := Hi (V0.out.ext x3)
  replace R0 := Hi (R0.out.ext x3)
  replace Y := Hi (Y.out.ext x3)
  clear x3
  clear c0 c5 c6 c7 c8
  obtain ⟨c0, c5, c6, c7, c8⟩ := V0.out.cells
  try rw [OPE.out] at c0
  cases hn : Sm.nrm (Sm.signs x.pin) with
  | none =>
   have hE : Sm.nrmV (Sm.signs x.pin) = .tuple #[.string ⟨#[]⟩, .bool false] := by unfold Sm.nrmV; rw [hn]
   rw [hE]
   have HN := Hi hn
   clear hE hn
   go_wp2_with ((with_reducible refine s7a ?_ ?_); (focus rfl))
   refine at9 (by go_simp) fun K0 hK => wp_build _ _ rfl _ built_zreq (hK _ _ ?_)
   clear hK
   go_wp2_with ((with_reducible refine s7a ?_ ?_); (focus rfl))
   refine at9 (by go_simp) fun K0 hK => st_q _ _ (g + 1 + 1) zeroQt rfl rfl rfl zeroQt_ok R0.out.2 (by rw [List.size_toArray, Qt.len zeroQt_ok]) (fun w9 hd ho => hK _ _ ?_)
   clear hK
   replace BW := Hi (ho.below w.heap.size (by have := HG.out; have := LT.out; omega) _ BW.out)
   have YD := Hi hd
   clear hd ho
   go_wp2_with fail
   exact bodyPost_ret (res_q2 rfl _ _ (g + 1 + 1) rfl zeroQt YD.out) rfl ⟨zeroQt, by rw [HRF.out]; rw [reqF_none (Or.inr (Or.inl OPE.out)) HN.out] <;> rfl, ⟨zeroQt_ok, nilB_pn _ _⟩, by rw [HRF.out]; rw [reqF_none (Or.inr (Or.inl OPE.out)) HN.out] <;> rfl, BW.out⟩
  | some pd =>
   have hE : Sm.nrmV (Sm.signs x.pin) = .tuple #[.string ⟨pd.toArray⟩, .bool true] := by unfold Sm.nrmV; rw [hn]
   rw [hE]
   have HN := Hi hn
   have hln := Sm.nrm_len hn
   have HPS : Hid ((⟨pd.toArray⟩ : ByteArray).size ≤ 80000000000000) := Hi (by show pd.toArray.size ≤ _; simp; omega)
   obtain ⟨PL, hPL⟩ : ∃ P, P = Sm.pinL x.pin x.id := ⟨_, rfl⟩
   have HPL : Hid (PL.length = 16) := Hi (by rw [hPL]; exact pinL_len _ _)
   have HPD : Hid (Sm.digsL (⟨pd.toArray⟩ : ByteArray).data.toList (Sm.sumL x.id) 16 = PL) := Hi (by rw [hPL]; unfold Sm.pinL; rw [hn])
   have HPE := Hi hPL
   obtain ⟨ps, hps⟩ : ∃ s : ByteArray, s = ⟨pd.toArray⟩ := ⟨_, rfl⟩
   rw [← hps] at HPS HPD ⊢
   clear hE hn hln hPL hps
   go_wp2_with ((with_reducible refine s7a ?_ ?_); (focus rfl))
   refine at9 (by go_simp) fun K0 hK => ld_wid _ (g + 1) x rfl rfl V0.out (hK _ _ ?_)
   clear hK
   go_wp2_with ((with_reducible refine s7a ?_ ?_); (focus rfl))
   refine (rsalt9_any x.id HX.out.1.idN _).mono ?_
   rintro e w4 ⟨rfl, x4⟩
   replace D0 := Hi (D0.out.ext x4)
   replace BW := Hi (Ex.trans BW.out x4)
   replace V0 := Hi (V0.out.ext x4)
   replace R0 := Hi (R0.out.ext x4)
   replace Y := Hi (Y.out.ext x4)
   clear x4
   clear c0 c5 c6 c7 c8
   obtain ⟨c0, c5, c6, c7, c8⟩ := V0.out.cells
   try rw [OPE.out] at c0
   go_wp2_with ((with_reducible refine s7a ?_ ?_); (focus rfl))
   refine (rdig9_any ps HPS.out _ (Sm.sumL_len _) _).mono ?_
   rintro e w4 ⟨rfl, x4⟩
   rw [HPD.out]
   replace D0 := Hi (D0.out.ext x4)
   replace BW := Hi (Ex.trans BW.out x4)
   replace V0 := Hi (V0.out.ext x4)
   replace R0 := Hi (R0.out.ext x4)
   replace Y := Hi (Y.out.ext x4)
   clear x4
   clear c0 c5 c6 c7 c8
   obtain ⟨c0, c5, c6, c7, c8⟩ := V0.out.cells
   try rw [OPE.out] at c0
   go_wp2_with ((with_reducible refine s7a ?_ ?_); (focus rfl))
   refine at9 (by go_simp) fun K0 hK => st_qpin _ _ i9 _ PL rfl rfl rfl HPL.out Y.out (fun w5 hd ho => hK _ _ ?_)
   clear hK
   replace BW := Hi (ho.below w.heap.size (by have := HG.out; have := LT.out; omega) _ BW.out)
   replace V0 := Hi (show WB _ (g + 1) x from ⟨V0.out.1, ho.bk V0.out.2 (by have := LT.out; omega)⟩)
   replace R0 := Hi (ho.qb R0.out (by have := LT.out; omega))
   replace D0 := Hi (ho.bk D0.out (by have := LT.out; omega))
   replace Y := Hi hd
   clear hd ho
   clear c0 c5 c6 c7 c8
   obtain ⟨c0, c5, c6, c7, c8⟩ := V0.out.cells
   try rw [OPE.out] at c0
   go_wp2_with ((with_reducible refine s7a ?_ ?_); (focus rfl))
   refine at9 (by go_simp) fun K0 hK => ld_dgb _ g kl rfl rfl HK.out D0.out (hK _ _ ?_)
   clear hK
   go_wp2_with ((with_reducible refine s7a ?_ ?_); (focus rfl))
   refine (rkeyof_any n m B9.out.2.1 B9.out.2.2 kl HK.out _).mono ?_
   rintro e w3 ⟨rfl, x3⟩
   rw [← HKL.out]
   replace D0 := Hi (D0.out.ext x3)
   replace BW := Hi (Ex.trans BW.out x3)
   replace V0 := Hi (V0.out.ext x3)
   replace R0 := Hi (R0.out.ext x3)
   replace Y := Hi (Y.out.ext x3)
   clear x3
   clear c0 c5 c6 c7 c8
   obtain ⟨c0, c5, c6, c7, c8⟩ := V0.out.cells
   try rw [OPE.out] at c0
   go_wp2_with ((with_reducible refine s7a ?_ ?_); (focus rfl))
   refine at9 (by go_simp) fun K0 hK => st_qkey _ _ i9 _ K9 rfl rfl rfl HKN.out Y.out (fun w5 hd ho => hK _ _ ?_)
   clear hK
   replace BW := Hi (ho.below w.heap.size (by have := HG.out; have := LT.out; omega) _ BW.out)
   replace V0 := Hi (show WB _ (g + 1) x from ⟨V0.out.1, ho.bk V0.out.2 (by have := LT.out; omega)⟩)
   replace R0 := Hi (ho.qb R0.out (by have := LT.out; omega))
   replace D0 := Hi (ho.bk D0.out (by have := LT.out; omega))
   replace Y := Hi hd
   clear hd ho
   clear c0 c5 c6 c7 c8
   obtain ⟨c0, c5, c6, c7, c8⟩ := V0.out.cells
   try rw [OPE.out] at c0
   go_wp2_with ((with_reducible refine s7a ?_ ?_); (focus rfl))
   obtain ⟨y, hy⟩ : ∃ y : Qt, y = (Qt.mk x.op x.id PL nilB 0 z16 K9 n m) := ⟨_, rfl⟩
   replace Y : Hid (QB _ i9 y) := Hi (by rw [hy]; exact Y.out)
   have HC : Hid (reqF n m kl x.ct = if y.ct.right = true then (y.ct, 0) else (zeroQt.ct, 1)) := Hi (by rw [reqF_2 OPE.out HN.out, hy]; simp only [Qt.ct, Wt.ct, HPE.out, HKL.out]; rfl)
   have YI := Hi (nilPN Y.out (by rw [hy]))
   clear hy
   refine at9 (by go_simp) fun K0 hK => ld_q _ i9 y rfl rfl Y.out (hK _ _ ?_)
   clear hK
   go_wp2_with ((with_reducible refine s7a ?_ ?_); (focus rfl))
   refine (rqright_any y _ ⟨Y.out.1, YI.out.1⟩).mono ?_
   rintro e w6 ⟨rfl, x6⟩
   obtain ⟨b, hb⟩ : ∃ b, b = y.ct.right := ⟨_, rfl⟩
   rw [← hb]
   rw [← hb] at HC
   clear hb
   replace YI := Hi (YI.out.ext x6)
   replace D0 := Hi (D0.out.ext x6)
   replace BW := Hi (Ex.trans BW.out x6)
   replace V0 := Hi (V0.out.ext x6)
   replace R0 := Hi (R0.out.ext x6)
   replace Y := Hi (Y.out.ext x6)
   clear x6
   clear c0 c5 c6 c7 c8
   obtain ⟨c0, c5, c6, c7, c8⟩ := V0.out.cells
   try rw [OPE.out] at c0
   cases b
   ·go_wp2_with ((with_reducible refine s7a ?_ ?_); (focus rfl))
    refine at9 (by go_simp) fun K0 hK => wp_build _ _ rfl _ built_zreq (hK _ _ ?_)
    clear hK
    go_wp2_with ((with_reducible refine s7a ?_ ?_); (focus rfl))
    refine at9 (by go_simp) fun K0 hK => st_q _ _ (g + 1 + 1) zeroQt rfl rfl rfl zeroQt_ok R0.out.2 (by rw [List.size_toArray, Qt.len zeroQt_ok]) (fun w9 hd ho => hK _ _ ?_)
    clear hK
    replace BW := Hi (ho.below w.heap.size (by have := HG.out; have := LT.out; omega) _ BW.out)
    have YD := Hi hd
    clear hd ho
    go_wp2_with fail
    exact bodyPost_ret (res_q2 rfl _ _ (g + 1 + 1) rfl zeroQt YD.out) rfl ⟨zeroQt, by rw [HRF.out]; rw [HC.out] <;> rfl, ⟨zeroQt_ok, nilB_pn _ _⟩, by rw [HRF.out]; rw [HC.out] <;> rfl, BW.out⟩
   ·go_wp2_with ((with_reducible refine s7a ?_ ?_); (focus rfl))
    refine at9 (by go_simp) fun K0 hK => ld_q _ i9 y rfl rfl Y.out (hK _ _ ?_)
    clear hK
    go_wp2_with ((with_reducible refine s7a ?_ ?_); (focus rfl))
    refine at9 (by go_simp) fun K0 hK => st_q _ _ (g + 1 + 1) y rfl rfl rfl Y.out.1 R0.out.2 (by rw [List.size_toArray, Qt.len zeroQt_ok]) (fun w9 hd ho => hK _ _ ?_)
    clear hK
    replace BW := Hi (ho.below w.heap.size (by have := HG.out; have := LT.out; omega) _ BW.out)
    have YD := Hi hd
    have YO := Hi Y.out.1
    have YF := Hi (YI.out.onlyT ho R0.out.2 (by decide))
    clear hd ho
    go_wp2_with fail
    exact bodyPost_ret (res_q2 rfl _ _ (g + 1 + 1) rfl y YD.out) rfl ⟨y, by rw [HRF.out, HC.out]; rfl, ⟨YO.out, YF.out⟩, by rw [HRF.out, HC.out]; rfl, BW.out⟩
 by_cases e3 : x.op = 3
 ·have OPE := Hi e3
  clear e1
  clear e2
  rw [e3] at c0
  clear e3
  go_wp2_with ((with_reducible refine s7a ?_ ?_); (focus rfl))
  refine (norm9_any x.pin HX.out.1.pinN _).mono ?_
  rintro e w3 ⟨rfl, x3⟩
  replace D0 := Hi (D0.out.ext x3)
  replace BW := Hi (Ex.trans BW.out x3)
  replace V0 := Hi (V0.out.ext x3)
  replace R0 := Hi (R0.out.ext x3)
  replace Y := Hi (Y.out.ext x3)
  clear x3
  clear c0 c5 c6 c7 c8
  obtain ⟨c0, c5, c6, c7, c8⟩ := V0.out.cells
  try rw [OPE.out] at c0
  cases hn : Sm.nrm (Sm.signs x.pin) with
  | none =>
   have hE : Sm.nrmV (Sm.signs x.pin) = .tuple #[.string ⟨#[]⟩, .bool false] := by unfold Sm.nrmV; rw [hn]
   rw [hE]
   have HN := Hi hn
   clear hE hn
   go_wp2_with ((with_reducible refine s7a ?_ ?_); (focus rfl))
   refine at9 (by go_simp) fun K0 hK => wp_build _ _ rfl _ built_zreq (hK _ _ ?_)
   clear hK
   go_wp2_with ((with_reducible refine s7a ?_ ?_); (focus rfl))
   refine at9 (by go_simp) fun K0 hK => st_q _ _ (g + 1 + 1) zeroQt rfl rfl rfl zeroQt_ok R0.out.2 (by rw [List.size_toArray, Qt.len zeroQt_ok]) (fun w9 hd ho => hK _ _ ?_)
   clear hK
   replace BW := Hi (ho.below w.heap.size (by have := HG.out; have := LT.out; omega) _ BW.out)
   have YD := Hi hd
   clear hd ho
   go_wp2_with fail
   exact bodyPost_ret (res_q2 rfl _ _ (g + 1 + 1) rfl zeroQt YD.out) rfl ⟨zeroQt, by rw [HRF.out]; rw [reqF_none (Or.inr (Or.inr OPE.out)) HN.out] <;> rfl, ⟨zeroQt_ok, nilB_pn _ _⟩, by rw [HRF.out]; rw [reqF_none (Or.inr (Or.inr OPE.out)) HN.out] <;> rfl, BW.out⟩
  | some pd =>
   have hE : Sm.nrmV (Sm.signs x.pin) = .tuple #[.string ⟨pd.toArray⟩, .bool true] := by unfold Sm.nrmV; rw [hn]
   rw [hE]
   have HN := Hi hn
   have hln := Sm.nrm_len hn
   have HPS : Hid ((⟨pd.toArray⟩ : ByteArray).size ≤ 80000000000000) := Hi (by show pd.toArray.size ≤ _; simp; omega)
   obtain ⟨PL, hPL⟩ : ∃ P, P = Sm.pinL x.pin x.id := ⟨_, rfl⟩
   have HPL : Hid (PL.length = 16) := Hi (by rw [hPL]; exact pinL_len _ _)
   have HPD : Hid (Sm.digsL (⟨pd.toArray⟩ : ByteArray).data.toList (Sm.sumL x.id) 16 = PL) := Hi (by rw [hPL]; unfold Sm.pinL; rw [hn])
   have HPE := Hi hPL
   obtain ⟨ps, hps⟩ : ∃ s : ByteArray, s = ⟨pd.toArray⟩ := ⟨_, rfl⟩
   rw [← hps] at HPS HPD ⊢
   clear hE hn hln hPL hps
   go_wp2_with ((with_reducible refine s7a ?_ ?_); (focus rfl))
   refine at9 (by go_simp) fun K0 hK => ld_wid _ (g + 1) x rfl rfl V0.out (hK _ _ ?_)
   clear hK
   go_wp2_with ((with_reducible refine s7a ?_ ?_); (focus rfl))
   refine (rsalt9_any x.id HX.out.1.idN _).mono ?_
   rintro e w4 ⟨rfl, x4⟩
   replace D0 := Hi (D0.out.ext x4)
   replace BW := Hi (Ex.trans BW.out x4)
   replace V0 := Hi (V0.out.ext x4)
   replace R0 := Hi (R0.out.ext x4)
   replace Y := Hi (Y.out.ext x4)
   clear x4
   clear c0 c5 c6 c7 c8
   obtain ⟨c0, c5, c6, c7, c8⟩ := V0.out.cells
   try rw [OPE.out] at c0
   go_wp2_with ((with_reducible refine s7a ?_ ?_); (focus rfl))
   refine (rdig9_any ps HPS.out _ (Sm.sumL_len _) _).mono ?_
   rintro e w4 ⟨rfl, x4⟩
   rw [HPD.out]
   replace D0 := Hi (D0.out.ext x4)
   replace BW := Hi (Ex.trans BW.out x4)
   replace V0 := Hi (V0.out.ext x4)
   replace R0 := Hi (R0.out.ext x4)
   replace Y := Hi (Y.out.ext x4)
   clear x4
   clear c0 c5 c6 c7 c8
   obtain ⟨c0, c5, c6, c7, c8⟩ := V0.out.cells
   try rw [OPE.out] at c0
   go_wp2_with ((with_reducible refine s7a ?_ ?_); (focus rfl))
   refine at9 (by go_simp) fun K0 hK => st_qpin _ _ i9 _ PL rfl rfl rfl HPL.out Y.out (fun w5 hd ho => hK _ _ ?_)
   clear hK
   replace BW := Hi (ho.below w.heap.size (by have := HG.out; have := LT.out; omega) _ BW.out)
   replace V0 := Hi (show WB _ (g + 1) x from ⟨V0.out.1, ho.bk V0.out.2 (by have := LT.out; omega)⟩)
   replace R0 := Hi (ho.qb R0.out (by have := LT.out; omega))
   replace D0 := Hi (ho.bk D0.out (by have := LT.out; omega))
   replace Y := Hi hd
   clear hd ho
   clear c0 c5 c6 c7 c8
   obtain ⟨c0, c5, c6, c7, c8⟩ := V0.out.cells
   try rw [OPE.out] at c0
   go_wp2_with ((with_reducible refine s7a ?_ ?_); (focus rfl))
   refine at9 (by go_simp) fun K0 hK => wp_cvs9 _ x.own rfl rfl (fun op w3 ol oi x3 => hK _ _ ?_)
   clear hK
   have OI := Hi oi
   have OL := Hi ol
   clear oi ol
   replace D0 := Hi (D0.out.ext x3)
   replace BW := Hi (Ex.trans BW.out x3)
   replace V0 := Hi (V0.out.ext x3)
   replace R0 := Hi (R0.out.ext x3)
   replace Y := Hi (Y.out.ext x3)
   clear x3
   clear c0 c5 c6 c7 c8
   obtain ⟨c0, c5, c6, c7, c8⟩ := V0.out.cells
   try rw [OPE.out] at c0
   go_wp2_with ((with_reducible refine s7a ?_ ?_); (focus rfl))
   refine (rsum9_any op _ OI.out (by rw [OL.out, Array.length_toList]; exact Nat.lt_succ_of_le HX.out.1.ownN)).mono ?_
   rintro e w3 ⟨rfl, x3⟩
   rw [OL.out]
   clear OI
   replace D0 := Hi (D0.out.ext x3)
   replace BW := Hi (Ex.trans BW.out x3)
   replace V0 := Hi (V0.out.ext x3)
   replace R0 := Hi (R0.out.ext x3)
   replace Y := Hi (Y.out.ext x3)
   clear x3
   clear c0 c5 c6 c7 c8
   obtain ⟨c0, c5, c6, c7, c8⟩ := V0.out.cells
   try rw [OPE.out] at c0
   go_wp2_with ((with_reducible refine s7a ?_ ?_); (focus rfl))
   refine at9 (by go_simp) fun K0 hK => st_qown _ _ i9 _ (Sm.sumL x.own.data.toList) rfl rfl rfl (Sm.sumL_len _) Y.out (fun w5 hd ho => hK _ _ ?_)
   clear hK
   replace BW := Hi (ho.below w.heap.size (by have := HG.out; have := LT.out; omega) _ BW.out)
   replace V0 := Hi (show WB _ (g + 1) x from ⟨V0.out.1, ho.bk V0.out.2 (by have := LT.out; omega)⟩)
   replace R0 := Hi (ho.qb R0.out (by have := LT.out; omega))
   replace D0 := Hi (ho.bk D0.out (by have := LT.out; omega))
   replace Y := Hi hd
   clear hd ho
   clear c0 c5 c6 c7 c8
   obtain ⟨c0, c5, c6, c7, c8⟩ := V0.out.cells
   try rw [OPE.out] at c0
   go_wp2_with ((with_reducible refine s7a ?_ ?_); (focus rfl))
   obtain ⟨yq, hyq⟩ : ∃ y : Qt, y = Qt.mk x.op x.id PL nilB 0 (Sm.sumL x.own.data.toList) z16 n m := ⟨_, rfl⟩
   replace Y : Hid (QB w5 i9 yq) := Hi (by rw [hyq]; exact Y.out)
   have HYQ := Hi hyq
   have HI9 := Hi Y.out.lt
   have SI := Hi (HX.out.2.ext BW.out)
   have hS0 := c10_start (x := x) Y.out
   clear hyq c0 c5 c6 c7 c8
   obtain ⟨T, hT⟩ : ∃ T : List (Value → Prop), T = [(fun zz => zz = .pointer (some ⟨g + 1, 7, none⟩)), (fun zz => zz = .int .i64 x.lim), (fun _ => True), (fun zz => zz = .pointer (some ⟨g + 1, 6, none⟩)), (fun zz => zz = x.sec.V), (fun _ => True), (fun zz => zz = .pointer (some ⟨i9, 22, none⟩)), (fun _ => True), (fun zz => zz = .pointer (some ⟨i9, 21, none⟩)), (fun _ => True)] := ⟨_, rfl⟩
   refine wp_region_gen (JS T ([(5, 2), (5, 4), (4, 3), (7, 0), (7, 1), (7, 5), (7, 6), (8, 7), (9, 7), (9, 8), (9, 5)] : List (Nat × Nat)) (C10 w5 i9 yq x)) (by kernel_rfl) (by kernel_rfl) (by kernel_rfl) (fitB_spec (by kernel_rfl)) (fun listed f h => JS.start listed f h (hS0 listed f h)) ?_ ?_
   ·intro i o ho
    have hi : i < 10 := (Array.getElem?_eq_some_iff.1 ho).1
    have hi' : i = 0 ∨ i = 1 ∨ i = 2 ∨ i = 3 ∨ i = 4 ∨ i = 5 ∨ i = 6 ∨ i = 7 ∨ i = 8 ∨ i = 9 := by omega
    clear hi
    rcases hi' with rfl | rfl | rfl | rfl | rfl | rfl | rfl | rfl | rfl | rfl
    all_goals (simp only [List.getElem?_toArray, List.getElem?_cons_zero, List.getElem?_cons_succ, Option.some.injEq] at ho; subst ho; intro listed f a w2 hJ hsz hls hun hdep hout hlat; first | (rw [if_pos (by rfl)]; intro K hK) | skip)
    ·have q7 := hout 7 ob
     have n7 := unq hJ.ord 7 0 hun
     have n9 := unq hJ.ord 9 7 (unq hJ.ord 7 0 hun)
     rw [gd9] at q7
     clear hsz hdep hout hlat
     go_simp
     exact hK _ _ (hJ.na hls hT ⟨fun _ => ⟨(hJ.st.1 n7).1, fun a b => by rw [gset (by decide)] at a b; rw [upd_ne _ _ (by decide)]; exact (hJ.st.1 n7).2.1 a b, fun a => by rw [gset (by decide)] at a; rw [upd_ne _ _ (by decide)]; exact (hJ.st.1 n7).2.2 a⟩, fun a => absurd a (by rw [gset (by decide), n7]; decide), fun a => absurd a (by rw [gset (by decide), n9]; decide)⟩)
    ·have q74 := hJ.is hT (hdep ⟨0, .data⟩ (by simp) rfl) rfl _ rfl _ rfl
     have n7 := unq hJ.ord 7 1 hun
     have n9 := unq hJ.ord 9 7 (unq hJ.ord 7 1 hun)
     rw [gd9] at q74
     have c6 := (V0.out.ext (hJ.st.1 n7).1).cells.2.2.2.1
     have HF := Hi (hK (.int .i64 x.lim) w2 (hJ.nx hls hT rfl rfl ⟨fun _ => ⟨(hJ.st.1 n7).1, fun a b => by rw [gset (by decide)] at a b; rw [upd_ne _ _ (by decide)]; exact (hJ.st.1 n7).2.1 a b, fun a => by rw [gset (by decide)] at a; rw [upd_ne _ _ (by decide)]; exact (hJ.st.1 n7).2.2 a⟩, fun a => absurd a (by rw [gset (by decide), n7]; decide), fun a => absurd a (by rw [gset (by decide), n9]; decide)⟩ nh))
     clear hsz hdep hout hlat hJ hK
     go_simp
     exact HF.out
    ·have n7 := unq hJ.ord 7 5 (unq hJ.ord 5 2 hun)
     have n9 := unq hJ.ord 9 7 (unq hJ.ord 7 5 (unq hJ.ord 5 2 hun))
     have n5 := unq hJ.ord 5 2 hun
     have HF := Hi (hK (.slice (some ⟨w2.heap.size, 0, none⟩) 0 0) (w2.alloc (.cells #[] 5)) (hJ.nx hls hT rfl (by exact trivial) ⟨fun _ => ⟨Ex.trans (hJ.st.1 n7).1 (Ex.alloc _ _), fun _ _ => by rw [upd_same]; exact ownU_less (own8_empty w2) (hJ.st.1 n7).1.size, fun a => absurd a (by rw [gset (by decide), n5]; decide)⟩, fun a => absurd a (by rw [gset (by decide), n7]; decide), fun a => absurd a (by rw [gset (by decide), n9]; decide)⟩ nh))
     clear hsz hdep hout hlat hJ hK
     go_simp
     exact HF.out
    ·have q7 := hout 7 ob
     have n7 := unq hJ.ord 7 5 (unq hJ.ord 5 4 (unq hJ.ord 4 3 hun))
     have n9 := unq hJ.ord 9 7 (unq hJ.ord 7 5 (unq hJ.ord 5 4 (unq hJ.ord 4 3 hun)))
     rw [gd9] at q7
     clear hsz hdep hout hlat
     go_simp
     exact hK _ _ (hJ.na hls hT ⟨fun _ => ⟨(hJ.st.1 n7).1, fun a b => by rw [gset (by decide)] at a b; rw [upd_ne _ _ (by decide)]; exact (hJ.st.1 n7).2.1 a b, fun a => by rw [gset (by decide)] at a; rw [upd_ne _ _ (by decide)]; exact (hJ.st.1 n7).2.2 a⟩, fun a => absurd a (by rw [gset (by decide), n7]; decide), fun a => absurd a (by rw [gset (by decide), n9]; decide)⟩)
    ·have q77 := hJ.is hT (hdep ⟨3, .data⟩ (by simp) rfl) rfl _ rfl _ rfl
     have hl3 := (hdep ⟨3, .data⟩ (by simp) rfl).1
     have hord : ∀ x ∈ ([(5, 2), (5, 4), (4, 3), (7, 0), (7, 1), (7, 5), (7, 6), (8, 7), (9, 7), (9, 8), (9, 5)] : List (Nat × Nat)), x.1 = 4 → listed.getD x.2 false = true := (by intro x hx he; simp only [List.mem_cons, List.not_mem_nil, or_false] at hx; rcases hx with rfl | rfl | rfl | rfl | rfl | rfl | rfl | rfl | rfl | rfl | rfl; all_goals first | (exact absurd he (by decide)) | assumption)
     have n7 := unq hJ.ord 7 5 (unq hJ.ord 5 4 hun)
     have n9 := unq hJ.ord 9 7 (unq hJ.ord 7 5 (unq hJ.ord 5 4 hun))
     rw [gd9] at q77
     have c6 := (V0.out.ext (hJ.st.1 n7).1).cells.2.2.1
     rw [show x.sec.V = .slice x.sec.ad x.sec.l.length x.sec.cap from rfl] at c6
     have HF := Hi (hK x.sec.V w2 (hJ.nx hls hT rfl rfl ⟨fun _ => ⟨(hJ.st.1 n7).1, fun a b => by rw [gset (by decide)] at a b; rw [upd_ne _ _ (by decide)]; exact (hJ.st.1 n7).2.1 a b, fun a => by rw [gset (by decide)] at a; rw [upd_ne _ _ (by decide)]; exact (hJ.st.1 n7).2.2 a⟩, fun a => absurd a (by rw [gset (by decide), n7]; decide), fun a => absurd a (by rw [gset (by decide), n9]; decide)⟩ hord))
     clear hsz hdep hout hlat hJ hK
     go_simp
     exact HF.out
    ·have dd76 := hdep ⟨2, .data⟩ (by simp) rfl
     have q76 := dd76.2 _ rfl _ rfl
     have q78 := hJ.is hT (hdep ⟨4, .data⟩ (by simp) rfl) rfl _ rfl _ rfl
     have hl2 := (hdep ⟨2, .data⟩ (by simp) rfl).1
     have hl4 := (hdep ⟨4, .data⟩ (by simp) rfl).1
     have hord : ∀ x ∈ ([(5, 2), (5, 4), (4, 3), (7, 0), (7, 1), (7, 5), (7, 6), (8, 7), (9, 7), (9, 8), (9, 5)] : List (Nat × Nat)), x.1 = 5 → listed.getD x.2 false = true := (by intro x hx he; simp only [List.mem_cons, List.not_mem_nil, or_false] at hx; rcases hx with rfl | rfl | rfl | rfl | rfl | rfl | rfl | rfl | rfl | rfl | rfl; all_goals first | (exact absurd he (by decide)) | assumption)
     have n7 := unq hJ.ord 7 5 hun
     have n9 := unq hJ.ord 9 7 (unq hJ.ord 7 5 hun)
     have hown := (hJ.st.1 n7).2.1 (hdep ⟨2, .data⟩ (by simp) rfl).1 hun
     have hx2 := (hJ.st.1 n7).1
     refine wp_cat (.tmp 76) (.tmp 78) rfl w5.heap.size (f 2) [] q76 hown hx2.size x.sec q78 (SI.out.ext hx2) (by show 0 + x.sec.l.length ≤ _; have := HX.out.1.secN; omega) (fun v8 w8 o8 g8 l8 => hK _ _ (hJ.nx hls hT rfl (by exact trivial) ⟨fun _ => ⟨hx2.grown g8 hx2.size (fun j hj => (World.ownsRow.lt hown j hj).1), fun _ b => absurd b (by rw [set_new (by rw [hls]; decide)]; decide), fun _ => by obtain ⟨sp, e1, e2, e3⟩ := own_pn o8; exact ⟨sp, by rw [upd_same]; exact e1, e2, e3⟩⟩, fun a => absurd a (by rw [gset (by decide), n7]; decide), fun a => absurd a (by rw [gset (by decide), n9]; decide)⟩ hord))
    ·have q10 := hout 10 ob
     have n7 := unq hJ.ord 7 6 hun
     have n9 := unq hJ.ord 9 7 (unq hJ.ord 7 6 hun)
     rw [gd9] at q10
     clear hsz hdep hout hlat
     go_simp
     exact hK _ _ (hJ.na hls hT ⟨fun _ => ⟨(hJ.st.1 n7).1, fun a b => by rw [gset (by decide)] at a b; rw [upd_ne _ _ (by decide)]; exact (hJ.st.1 n7).2.1 a b, fun a => by rw [gset (by decide)] at a; rw [upd_ne _ _ (by decide)]; exact (hJ.st.1 n7).2.2 a⟩, fun a => absurd a (by rw [gset (by decide), n7]; decide), fun a => absurd a (by rw [gset (by decide), n9]; decide)⟩)
    ·have q80 := hJ.is hT (hdep ⟨6, .data⟩ (by simp) rfl) rfl _ rfl _ rfl
     have q75 := hJ.is hT (hdep ⟨1, .data⟩ (by simp) rfl) rfl _ rfl _ rfl
     have hl0 := (hdep ⟨0, .phase⟩ (by simp) rfl).1
     have hl1 := (hdep ⟨1, .data⟩ (by simp) rfl).1
     have hl5 := (hdep ⟨5, .chain⟩ (by simp) rfl).1
     have hl6 := (hdep ⟨6, .data⟩ (by simp) rfl).1
     have hord : ∀ x ∈ ([(5, 2), (5, 4), (4, 3), (7, 0), (7, 1), (7, 5), (7, 6), (8, 7), (9, 7), (9, 8), (9, 5)] : List (Nat × Nat)), x.1 = 7 → listed.getD x.2 false = true := (by intro x hx he; simp only [List.mem_cons, List.not_mem_nil, or_false] at hx; rcases hx with rfl | rfl | rfl | rfl | rfl | rfl | rfl | rfl | rfl | rfl | rfl; all_goals first | (exact absurd he (by decide)) | assumption)
     have n9 := unq hJ.ord 9 7 hun
     have hA := hJ.st.1 hun
     have hx2 := hA.1
     obtain ⟨sp, e1, e2, e3⟩ := hA.2.2 (hdep ⟨5, .chain⟩ (by simp) rfl).1
     have hY := Y.out.ext hx2
     refine st_qlim (by kernel_rfl) (.tmp 80) (.tmp 75) i9 yq x.lim rfl q80 q75 HX.out.1.lim0 HX.out.1.lim1 hY (fun w8 hd ho => hK _ _ (hJ.nx hls hT rfl (by exact trivial) ⟨fun a => absurd a (by rw [set_new (by rw [hls]; decide)]; decide), fun _ _ => ⟨⟨sp, by rw [upd_ne _ _ (by decide)]; exact e1, e2, e3.only ho HI9.out⟩, hd, (hx2.md (Nat.le_of_lt HI9.out)).trans ho.md⟩, fun a => absurd a (by rw [gset (by decide), n9]; decide)⟩ hord))
    ·have q10 := hout 10 ob
     have hl7 := (hdep ⟨7, .phase⟩ (by simp) rfl).1
     have hord : ∀ x ∈ ([(5, 2), (5, 4), (4, 3), (7, 0), (7, 1), (7, 5), (7, 6), (8, 7), (9, 7), (9, 8), (9, 5)] : List (Nat × Nat)), x.1 = 8 → listed.getD x.2 false = true := (by intro x hx he; simp only [List.mem_cons, List.not_mem_nil, or_false] at hx; rcases hx with rfl | rfl | rfl | rfl | rfl | rfl | rfl | rfl | rfl | rfl | rfl; all_goals first | (exact absurd he (by decide)) | assumption)
     have n9 := unq hJ.ord 9 8 hun
     rw [gd9] at q10
     have l7 := (hdep ⟨7, .phase⟩ (by simp) rfl).1
     have HF := Hi (hK (.pointer (some ⟨i9, 21, none⟩)) w2 (hJ.nx hls hT rfl rfl ⟨fun a => absurd a (by rw [gset (by decide), l7]; decide), fun _ b => by rw [gset (by decide)] at b; rw [upd_ne _ _ (by decide)]; exact hJ.st.2.1 l7 b, fun a => absurd a (by rw [gset (by decide), n9]; decide)⟩ hord))
     clear hsz hdep hout hlat hJ hK
     go_simp
     exact HF.out
    ·have q81 := hJ.is hT (hdep ⟨8, .data⟩ (by simp) rfl) rfl _ rfl _ rfl
     have dd79 := hdep ⟨5, .data⟩ (by simp) rfl
     have q79 := dd79.2 _ rfl _ rfl
     have hl7 := (hdep ⟨7, .chain⟩ (by simp) rfl).1
     have hl8 := (hdep ⟨8, .data⟩ (by simp) rfl).1
     have hl5 := (hdep ⟨5, .data⟩ (by simp) rfl).1
     have hord : ∀ x ∈ ([(5, 2), (5, 4), (4, 3), (7, 0), (7, 1), (7, 5), (7, 6), (8, 7), (9, 7), (9, 8), (9, 5)] : List (Nat × Nat)), x.1 = 9 → listed.getD x.2 false = true := (by intro x hx he; simp only [List.mem_cons, List.not_mem_nil, or_false] at hx; rcases hx with rfl | rfl | rfl | rfl | rfl | rfl | rfl | rfl | rfl | rfl | rfl; all_goals first | (exact absurd he (by decide)) | assumption)
     have l7 := (hdep ⟨7, .chain⟩ (by simp) rfl).1
     obtain ⟨⟨sp, e1, e2, e3⟩, hY, hM⟩ := hJ.st.2.1 l7 hun
     rw [e1] at q79
     refine st_qsec (by kernel_rfl) (.tmp 81) (.tmp 79) i9 _ sp rfl q81 q79 hY (fun w8 hd ho => hK _ _ (hJ.nx hls hT rfl (by exact trivial) ⟨fun a => absurd a (by rw [gset (by decide), l7]; decide), fun _ b => absurd b (by rw [set_new (by rw [hls]; decide)]; decide), fun _ => ⟨sp, e2, e3.only ho HI9.out, hd, hM.trans ho.md⟩⟩ hord))
   ·intro listed f w2 hall hJ
    have hst := hJ.st
    simp only [putAll, Act.put, List.setIfInBounds_toArray, List.set_cons_zero, List.set_cons_succ, Nat.zero_add, Nat.reduceAdd]
    obtain ⟨sp, sl, sn, hd, hm⟩ := hst.2.2 (hall 9 (by simp))
    have SL := Hi sl
    have SN := Hi sn
    clear hst hS0
    clear hJ hall hT
    replace BW := Hi (Md.ex hm BW.out (by have := HG.out; have := LT.out; omega))
    replace V0 := Hi (show WB w2 (g + 1) x from ⟨V0.out.1, hm.bk V0.out.2 (by have := LT.out; omega)⟩)
    replace R0 := Hi (hm.qb R0.out (by have := LT.out; omega))
    replace D0 := Hi (hm.bk D0.out (by have := LT.out; omega))
    replace Y := Hi hd
    rw [HYQ.out] at Y
    clear hd hm sl sn HYQ HI9 SI
    obtain ⟨c0, c5, c6, c7, c8⟩ := V0.out.cells
    try rw [OPE.out] at c0
    go_wp2_with ((with_reducible refine s7a ?_ ?_); (focus rfl))
    refine at9 (by go_simp) fun K0 hK => ld_dgb _ g kl rfl rfl HK.out D0.out (hK _ _ ?_)
    clear hK
    go_wp2_with ((with_reducible refine s7a ?_ ?_); (focus rfl))
    refine (rkeyof_any n m B9.out.2.1 B9.out.2.2 kl HK.out _).mono ?_
    rintro e w3 ⟨rfl, x3⟩
    rw [← HKL.out]
    replace D0 := Hi (D0.out.ext x3)
    replace BW := Hi (Ex.trans BW.out x3)
    replace V0 := Hi (V0.out.ext x3)
    replace R0 := Hi (R0.out.ext x3)
    replace Y := Hi (Y.out.ext x3)
    replace SN := Hi (SN.out.ext x3)
    clear x3
    clear c0 c5 c6 c7 c8
    obtain ⟨c0, c5, c6, c7, c8⟩ := V0.out.cells
    try rw [OPE.out] at c0
    go_wp2_with ((with_reducible refine s7a ?_ ?_); (focus rfl))
    refine at9 (by go_simp) fun K0 hK => st_qkey _ _ i9 _ K9 rfl rfl rfl HKN.out Y.out (fun w5 hd ho => hK _ _ ?_)
    clear hK
    replace BW := Hi (ho.below w.heap.size (by have := HG.out; have := LT.out; omega) _ BW.out)
    replace V0 := Hi (show WB _ (g + 1) x from ⟨V0.out.1, ho.bk V0.out.2 (by have := LT.out; omega)⟩)
    replace R0 := Hi (ho.qb R0.out (by have := LT.out; omega))
    replace D0 := Hi (ho.bk D0.out (by have := LT.out; omega))
    replace SN := Hi (SN.out.onlyT ho Y.out.2 (by decide))
    replace Y := Hi hd
    clear hd ho
    clear c0 c5 c6 c7 c8
    obtain ⟨c0, c5, c6, c7, c8⟩ := V0.out.cells
    try rw [OPE.out] at c0
    go_wp2_with ((with_reducible refine s7a ?_ ?_); (focus rfl))
    obtain ⟨y, hy⟩ : ∃ y : Qt, y = (Qt.mk x.op x.id PL sp x.lim (Sm.sumL x.own.data.toList) K9 n m) := ⟨_, rfl⟩
    replace Y : Hid (QB _ i9 y) := Hi (by rw [hy]; exact Y.out)
    have HC : Hid (reqF n m kl x.ct = if y.ct.right = true then (y.ct, 0) else (zeroQt.ct, 1)) := Hi (by rw [reqF_3 OPE.out HN.out, hy]; simp only [Qt.ct, Wt.ct, HPE.out, HKL.out, SL.out]; rfl)
    have YI : Hid (PN _ 0 y.sec) := Hi (by rw [hy]; exact SN.out.less (Nat.zero_le _))
    clear hy
    refine at9 (by go_simp) fun K0 hK => ld_q _ i9 y rfl rfl Y.out (hK _ _ ?_)
    clear hK
    go_wp2_with ((with_reducible refine s7a ?_ ?_); (focus rfl))
    refine (rqright_any y _ ⟨Y.out.1, YI.out.1⟩).mono ?_
    rintro e w6 ⟨rfl, x6⟩
    obtain ⟨b, hb⟩ : ∃ b, b = y.ct.right := ⟨_, rfl⟩
    rw [← hb]
    rw [← hb] at HC
    clear hb
    replace YI := Hi (YI.out.ext x6)
    replace D0 := Hi (D0.out.ext x6)
    replace BW := Hi (Ex.trans BW.out x6)
    replace V0 := Hi (V0.out.ext x6)
    replace R0 := Hi (R0.out.ext x6)
    replace Y := Hi (Y.out.ext x6)
    clear x6
    clear c0 c5 c6 c7 c8
    obtain ⟨c0, c5, c6, c7, c8⟩ := V0.out.cells
    try rw [OPE.out] at c0
    cases b
    ·go_wp2_with ((with_reducible refine s7a ?_ ?_); (focus rfl))
     refine at9 (by go_simp) fun K0 hK => wp_build _ _ rfl _ built_zreq (hK _ _ ?_)
     clear hK
     go_wp2_with ((with_reducible refine s7a ?_ ?_); (focus rfl))
     refine at9 (by go_simp) fun K0 hK => st_q _ _ (g + 1 + 1) zeroQt rfl rfl rfl zeroQt_ok R0.out.2 (by rw [List.size_toArray, Qt.len zeroQt_ok]) (fun w9 hd ho => hK _ _ ?_)
     clear hK
     replace BW := Hi (ho.below w.heap.size (by have := HG.out; have := LT.out; omega) _ BW.out)
     have YD := Hi hd
     clear hd ho
     go_wp2_with fail
     exact bodyPost_ret (res_q2 rfl _ _ (g + 1 + 1) rfl zeroQt YD.out) rfl ⟨zeroQt, by rw [HRF.out]; rw [HC.out] <;> rfl, ⟨zeroQt_ok, nilB_pn _ _⟩, by rw [HRF.out]; rw [HC.out] <;> rfl, BW.out⟩
    ·go_wp2_with ((with_reducible refine s7a ?_ ?_); (focus rfl))
     refine at9 (by go_simp) fun K0 hK => ld_q _ i9 y rfl rfl Y.out (hK _ _ ?_)
     clear hK
     go_wp2_with ((with_reducible refine s7a ?_ ?_); (focus rfl))
     refine at9 (by go_simp) fun K0 hK => st_q _ _ (g + 1 + 1) y rfl rfl rfl Y.out.1 R0.out.2 (by rw [List.size_toArray, Qt.len zeroQt_ok]) (fun w9 hd ho => hK _ _ ?_)
     clear hK
     replace BW := Hi (ho.below w.heap.size (by have := HG.out; have := LT.out; omega) _ BW.out)
     have YD := Hi hd
     have YO := Hi Y.out.1
     have YF := Hi (YI.out.onlyT ho R0.out.2 (by decide))
     clear hd ho
     go_wp2_with fail
     exact bodyPost_ret (res_q2 rfl _ _ (g + 1 + 1) rfl y YD.out) rfl ⟨y, by rw [HRF.out, HC.out]; rfl, ⟨YO.out, YF.out⟩, by rw [HRF.out, HC.out]; rfl, BW.out⟩
 by_cases e4 : x.op = 4
 ·have OPE := Hi e4
  clear e1
  clear e2
  clear e3
  rw [e4] at c0
  clear e4
  go_wp2_with ((with_reducible refine s7a ?_ ?_); (focus rfl))
  refine at9 (by go_simp) fun K0 hK => wp_cvs9 _ x.own rfl rfl (fun op w3 ol oi x3 => hK _ _ ?_)
  clear hK
  have OI := Hi oi
  have OL := Hi ol
  clear oi ol
  replace D0 := Hi (D0.out.ext x3)
  replace BW := Hi (Ex.trans BW.out x3)
  replace V0 := Hi (V0.out.ext x3)
  replace R0 := Hi (R0.out.ext x3)
  replace Y := Hi (Y.out.ext x3)
  clear x3
  clear c0 c5 c6 c7 c8
  obtain ⟨c0, c5, c6, c7, c8⟩ := V0.out.cells
  try rw [OPE.out] at c0
  go_wp2_with ((with_reducible refine s7a ?_ ?_); (focus rfl))
  refine (rsum9_any op _ OI.out (by rw [OL.out, Array.length_toList]; exact Nat.lt_succ_of_le HX.out.1.ownN)).mono ?_
  rintro e w3 ⟨rfl, x3⟩
  rw [OL.out]
  clear OI
  replace D0 := Hi (D0.out.ext x3)
  replace BW := Hi (Ex.trans BW.out x3)
  replace V0 := Hi (V0.out.ext x3)
  replace R0 := Hi (R0.out.ext x3)
  replace Y := Hi (Y.out.ext x3)
  clear x3
  clear c0 c5 c6 c7 c8
  obtain ⟨c0, c5, c6, c7, c8⟩ := V0.out.cells
  try rw [OPE.out] at c0
  go_wp2_with ((with_reducible refine s7a ?_ ?_); (focus rfl))
  refine at9 (by go_simp) fun K0 hK => st_qown _ _ i9 _ (Sm.sumL x.own.data.toList) rfl rfl rfl (Sm.sumL_len _) Y.out (fun w5 hd ho => hK _ _ ?_)
  clear hK
  replace BW := Hi (ho.below w.heap.size (by have := HG.out; have := LT.out; omega) _ BW.out)
  replace V0 := Hi (show WB _ (g + 1) x from ⟨V0.out.1, ho.bk V0.out.2 (by have := LT.out; omega)⟩)
  replace R0 := Hi (ho.qb R0.out (by have := LT.out; omega))
  replace D0 := Hi (ho.bk D0.out (by have := LT.out; omega))
  replace Y := Hi hd
  clear hd ho
  clear c0 c5 c6 c7 c8
  obtain ⟨c0, c5, c6, c7, c8⟩ := V0.out.cells
  try rw [OPE.out] at c0
  go_wp2_with ((with_reducible refine s7a ?_ ?_); (focus rfl))
  refine at9 (by go_simp) fun K0 hK => ld_dgb _ g kl rfl rfl HK.out D0.out (hK _ _ ?_)
  clear hK
  go_wp2_with ((with_reducible refine s7a ?_ ?_); (focus rfl))
  refine (rkeyof_any n m B9.out.2.1 B9.out.2.2 kl HK.out _).mono ?_
  rintro e w3 ⟨rfl, x3⟩
  rw [← HKL.out]
  replace D0 := Hi (D0.out.ext x3)
  replace BW := Hi (Ex.trans BW.out x3)
  replace V0 := Hi (V0.out.ext x3)
  replace R0 := Hi (R0.out.ext x3)
  replace Y := Hi (Y.out.ext x3)
  clear x3
  clear c0 c5 c6 c7 c8
  obtain ⟨c0, c5, c6, c7, c8⟩ := V0.out.cells
  try rw [OPE.out] at c0
  go_wp2_with ((with_reducible refine s7a ?_ ?_); (focus rfl))
  refine at9 (by go_simp) fun K0 hK => st_qkey _ _ i9 _ K9 rfl rfl rfl HKN.out Y.out (fun w5 hd ho => hK _ _ ?_)
  clear hK
  replace BW := Hi (ho.below w.heap.size (by have := HG.out; have := LT.out; omega) _ BW.out)
  replace V0 := Hi (show WB _ (g + 1) x from ⟨V0.out.1, ho.bk V0.out.2 (by have := LT.out; omega)⟩)
  replace R0 := Hi (ho.qb R0.out (by have := LT.out; omega))
  replace D0 := Hi (ho.bk D0.out (by have := LT.out; omega))
  replace Y := Hi hd
  clear hd ho
  clear c0 c5 c6 c7 c8
  obtain ⟨c0, c5, c6, c7, c8⟩ := V0.out.cells
  try rw [OPE.out] at c0
  go_wp2_with ((with_reducible refine s7a ?_ ?_); (focus rfl))
  obtain ⟨y, hy⟩ : ∃ y : Qt, y = (Qt.mk x.op x.id z16 nilB 0 (Sm.sumL x.own.data.toList) K9 n m) := ⟨_, rfl⟩
  replace Y : Hid (QB _ i9 y) := Hi (by rw [hy]; exact Y.out)
  have HC : Hid (reqF n m kl x.ct = if y.ct.right = true then (y.ct, 0) else (zeroQt.ct, 1)) := Hi (by rw [reqF_4 OPE.out, hy]; simp only [Qt.ct, Wt.ct, HKL.out]; rfl)
  have YI := Hi (nilPN Y.out (by rw [hy]))
  clear hy
  refine at9 (by go_simp) fun K0 hK => ld_q _ i9 y rfl rfl Y.out (hK _ _ ?_)
  clear hK
  go_wp2_with ((with_reducible refine s7a ?_ ?_); (focus rfl))
  refine (rqright_any y _ ⟨Y.out.1, YI.out.1⟩).mono ?_
  rintro e w6 ⟨rfl, x6⟩
  obtain ⟨b, hb⟩ : ∃ b, b = y.ct.right := ⟨_, rfl⟩
  rw [← hb]
  rw [← hb] at HC
  clear hb
  replace YI := Hi (YI.out.ext x6)
  replace D0 := Hi (D0.out.ext x6)
  replace BW := Hi (Ex.trans BW.out x6)
  replace V0 := Hi (V0.out.ext x6)
  replace R0 := Hi (R0.out.ext x6)
  replace Y := Hi (Y.out.ext x6)
  clear x6
  clear c0 c5 c6 c7 c8
  obtain ⟨c0, c5, c6, c7, c8⟩ := V0.out.cells
  try rw [OPE.out] at c0
  cases b
  ·go_wp2_with ((with_reducible refine s7a ?_ ?_); (focus rfl))
   refine at9 (by go_simp) fun K0 hK => wp_build _ _ rfl _ built_zreq (hK _ _ ?_)
   clear hK
   go_wp2_with ((with_reducible refine s7a ?_ ?_); (focus rfl))
   refine at9 (by go_simp) fun K0 hK => st_q _ _ (g + 1 + 1) zeroQt rfl rfl rfl zeroQt_ok R0.out.2 (by rw [List.size_toArray, Qt.len zeroQt_ok]) (fun w9 hd ho => hK _ _ ?_)
   clear hK
   replace BW := Hi (ho.below w.heap.size (by have := HG.out; have := LT.out; omega) _ BW.out)
   have YD := Hi hd
   clear hd ho
   go_wp2_with fail
   exact bodyPost_ret (res_q2 rfl _ _ (g + 1 + 1) rfl zeroQt YD.out) rfl ⟨zeroQt, by rw [HRF.out]; rw [HC.out] <;> rfl, ⟨zeroQt_ok, nilB_pn _ _⟩, by rw [HRF.out]; rw [HC.out] <;> rfl, BW.out⟩
  go_wp2_with ((with_reducible refine s7a ?_ ?_); (focus rfl))
  refine at9 (by go_simp) fun K0 hK => ld_q _ i9 y rfl rfl Y.out (hK _ _ ?_)
  clear hK
  go_wp2_with ((with_reducible refine s7a ?_ ?_); (focus rfl))
  refine at9 (by go_simp) fun K0 hK => st_q _ _ (g + 1 + 1) y rfl rfl rfl Y.out.1 R0.out.2 (by rw [List.size_toArray, Qt.len zeroQt_ok]) (fun w9 hd ho => hK _ _ ?_)
  clear hK
  replace BW := Hi (ho.below w.heap.size (by have := HG.out; have := LT.out; omega) _ BW.out)
  have YD := Hi hd
  have YO := Hi Y.out.1
  have YF := Hi (YI.out.onlyT ho R0.out.2 (by decide))
  clear hd ho
  go_wp2_with fail
  exact bodyPost_ret (res_q2 rfl _ _ (g + 1 + 1) rfl y YD.out) rfl ⟨y, by rw [HRF.out, HC.out]; rfl, ⟨YO.out, YF.out⟩, by rw [HRF.out, HC.out]; rfl, BW.out⟩
 have OPE := Hi (And.intro e1 (And.intro e2 (And.intro e3 e4)))
 have h1 : (x.op == 1) = false := by simpa using e1
 have h2 : (x.op == 2) = false := by simpa using e2
 have h3 : (x.op == 3) = false := by simpa using e3
 have h4 : (x.op == 4) = false := by simpa using e4
 go_wp2_with ((with_reducible refine s7a ?_ ?_); (focus rfl))
 refine at9 (by go_simp) fun K0 hK => ld_dgb _ g kl rfl rfl HK.out D0.out (hK _ _ ?_)
 clear hK
 go_wp2_with ((with_reducible refine s7a ?_ ?_); (focus rfl))
 refine (rkeyof_any n m B9.out.2.1 B9.out.2.2 kl HK.out _).mono ?_
 rintro e w3 ⟨rfl, x3⟩
 rw [← HKL.out]
 replace D0 := Hi (D0.out.ext x3)
 replace BW := Hi (Ex.trans BW.out x3)
 replace V0 := Hi (V0.out.ext x3)
 replace R0 := Hi (R0.out.ext x3)
 replace Y := Hi (Y.out.ext x3)
 clear x3
 clear c0 c5 c6 c7 c8
 obtain ⟨c0, c5, c6, c7, c8⟩ := V0.out.cells
 try rw [OPE.out] at c0
 go_wp2_with ((with_reducible refine s7a ?_ ?_); (focus rfl))
 refine at9 (by go_simp) fun K0 hK => st_qkey _ _ i9 _ K9 rfl rfl rfl HKN.out Y.out (fun w5 hd ho => hK _ _ ?_)
 clear hK
 replace BW := Hi (ho.below w.heap.size (by have := HG.out; have := LT.out; omega) _ BW.out)
 replace V0 := Hi (show WB _ (g + 1) x from ⟨V0.out.1, ho.bk V0.out.2 (by have := LT.out; omega)⟩)
 replace R0 := Hi (ho.qb R0.out (by have := LT.out; omega))
 replace D0 := Hi (ho.bk D0.out (by have := LT.out; omega))
 replace Y := Hi hd
 clear hd ho
 clear c0 c5 c6 c7 c8
 obtain ⟨c0, c5, c6, c7, c8⟩ := V0.out.cells
 try rw [OPE.out] at c0
 go_wp2_with ((with_reducible refine s7a ?_ ?_); (focus rfl))
 obtain ⟨y, hy⟩ : ∃ y : Qt, y = (Qt.mk x.op x.id z16 nilB 0 z16 K9 n m) := ⟨_, rfl⟩
 replace Y : Hid (QB _ i9 y) := Hi (by rw [hy]; exact Y.out)
 have HC : Hid (reqF n m kl x.ct = if y.ct.right = true then (y.ct, 0) else (zeroQt.ct, 1)) := Hi (by rw [reqF_0 OPE.out, hy]; simp only [Qt.ct, Wt.ct, HKL.out]; rfl)
 have YI := Hi (nilPN Y.out (by rw [hy]))
 clear hy
 refine at9 (by go_simp) fun K0 hK => ld_q _ i9 y rfl rfl Y.out (hK _ _ ?_)
 clear hK
 go_wp2_with ((with_reducible refine s7a ?_ ?_); (focus rfl))
 refine (rqright_any y _ ⟨Y.out.1, YI.out.1⟩).mono ?_
 rintro e w6 ⟨rfl, x6⟩
 obtain ⟨b, hb⟩ : ∃ b, b = y.ct.right := ⟨_, rfl⟩
 rw [← hb]
 rw [← hb] at HC
 clear hb
 replace YI := Hi (YI.out.ext x6)
 replace D0 := Hi (D0.out.ext x6)
 replace BW := Hi (Ex.trans BW.out x6)
 replace V0 := Hi (V0.out.ext x6)
 replace R0 := Hi (R0.out.ext x6)
 replace Y := Hi (Y.out.ext x6)
 clear x6
 clear c0 c5 c6 c7 c8
 obtain ⟨c0, c5, c6, c7, c8⟩ := V0.out.cells
 try rw [OPE.out] at c0
 cases b
 ·go_wp2_with ((with_reducible refine s7a ?_ ?_); (focus rfl))
  refine at9 (by go_simp) fun K0 hK => wp_build _ _ rfl _ built_zreq (hK _ _ ?_)
  clear hK
  go_wp2_with ((with_reducible refine s7a ?_ ?_); (focus rfl))
  refine at9 (by go_simp) fun K0 hK => st_q _ _ (g + 1 + 1) zeroQt rfl rfl rfl zeroQt_ok R0.out.2 (by rw [List.size_toArray, Qt.len zeroQt_ok]) (fun w9 hd ho => hK _ _ ?_)
  clear hK
  replace BW := Hi (ho.below w.heap.size (by have := HG.out; have := LT.out; omega) _ BW.out)
  have YD := Hi hd
  clear hd ho
  go_wp2_with fail
  exact bodyPost_ret (res_q2 rfl _ _ (g + 1 + 1) rfl zeroQt YD.out) rfl ⟨zeroQt, by rw [HRF.out]; rw [HC.out] <;> rfl, ⟨zeroQt_ok, nilB_pn _ _⟩, by rw [HRF.out]; rw [HC.out] <;> rfl, BW.out⟩
 go_wp2_with ((with_reducible refine s7a ?_ ?_); (focus rfl))
 refine at9 (by go_simp) fun K0 hK => ld_q _ i9 y rfl rfl Y.out (hK _ _ ?_)
 clear hK
 go_wp2_with ((with_reducible refine s7a ?_ ?_); (focus rfl))
 refine at9 (by go_simp) fun K0 hK => st_q _ _ (g + 1 + 1) y rfl rfl rfl Y.out.1 R0.out.2 (by rw [List.size_toArray, Qt.len zeroQt_ok]) (fun w9 hd ho => hK _ _ ?_)
 clear hK
 replace BW := Hi (ho.below w.heap.size (by have := HG.out; have := LT.out; omega) _ BW.out)
 have YD := Hi hd
 have YO := Hi Y.out.1
 have YF := Hi (YI.out.onlyT ho R0.out.2 (by decide))
 clear hd ho
 go_wp2_with fail
 exact bodyPost_ret (res_q2 rfl _ _ (g + 1 + 1) rfl y YD.out) rfl ⟨y, by rw [HRF.out, HC.out]; rfl, ⟨YO.out, YF.out⟩, by rw [HRF.out, HC.out]; rfl, BW.out⟩
end Go.Proofs.Ytopamplmpfndlaa.Cl
namespace Go.Proofs.Ytopamplmpfndlaa.Cl
open Go.RowKit
theorem reqF_sec {n num : Int} {k : List UInt8} {W : Wc} : (reqF n num k W).1.sec.length ≤ 64 := by
 have key : ∀ q : Qc, (if q.right = true then (q, (0 : Int)) else (zeroQt.ct, 1)).1.sec.length ≤ 64 := by
  intro q
  split
  ·rename_i h; exact Qc.sec_le h
  ·exact Nat.zero_le _
 unfold reqF
 split
 ·exact Nat.zero_le _
 exact key _
end Go.Proofs.Ytopamplmpfndlaa.Cl
