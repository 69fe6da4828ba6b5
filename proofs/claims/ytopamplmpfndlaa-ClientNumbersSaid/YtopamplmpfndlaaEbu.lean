/- Db, Dc, Cs -/
import Derived.Test.YtopamplmpfndlaaEbs
import Derived.Test.YtopamplmpfndlaaEbt
set_option maxRecDepth 100000
set_option maxHeartbeats 16000000
namespace Go.Proofs.Ytopamplmpfndlaa.Cl
open Go.RowKit
theorem tk_at {L : List UInt8} (A X Y : List UInt8) (hL : L = A ++ X ++ Y) {a n : Nat} (ha : A.length = a) (hn : X.length = n) : tks L (a, false) n = (a + n, false) ∧ tkv L (a, false) n = X := by
 subst hL
 subst ha
 subst hn
 have hb : Cl.bad (A ++ X ++ Y) (A.length, false) X.length = false := by
  unfold Cl.bad
  simp
 unfold tks tkv
 rw [hb]
 refine ⟨rfl, ?_⟩
 show ((A ++ X ++ Y).drop A.length).take X.length = X
 rw [List.append_assoc, List.drop_left, List.take_left]
theorem beV_by8 {x : Int} (h0 : 0 ≤ x) (h1 : x < 256) : (Sm.beV [Sm.by8 x] : Int) = x := by
 rw [beV_one rfl]
 exact by8_small h0 h1
theorem toRep_repB {c : Rc} (hid : c.id.length = 4) (g0 : 0 ≤ c.gen) (m0 : 0 ≤ c.num) (hr : Rcright c = true) : toRep (repB c) = (c, 0) := by
 obtain ⟨w0, w1, g1, l0, l1, ⟨c0, c1, m1⟩, s1⟩ := (Rcright_iff c).1 hr
 obtain ⟨L, hL⟩ : ∃ L, L = repB c := ⟨_, rfl⟩
 have hl : ∀ n : Int, (Sm.numL n).length = 8 := fun _ => rfl
 have a1 := tk_at (L := L) [] [Sm.by8 c.why] (c.id ++ Sm.numL c.gen ++ [Sm.by8 c.left, Sm.by8 c.client] ++ Sm.numL c.num ++ (Sm.by8 c.sec.length :: c.sec)) (by rw [hL]; unfold repB; simp) (a := 0) (n := 1) rfl rfl
 have a2 := tk_at (L := L) [Sm.by8 c.why] c.id (Sm.numL c.gen ++ [Sm.by8 c.left, Sm.by8 c.client] ++ Sm.numL c.num ++ (Sm.by8 c.sec.length :: c.sec)) (by rw [hL]; unfold repB; simp) (a := 1) (n := 4) rfl hid
 have a3 := tk_at (L := L) ([Sm.by8 c.why] ++ c.id) (Sm.numL c.gen) ([Sm.by8 c.left, Sm.by8 c.client] ++ Sm.numL c.num ++ (Sm.by8 c.sec.length :: c.sec)) (by rw [hL]; unfold repB; simp) (a := 5) (n := 8) (by simp [hid]) rfl
 have a4 := tk_at (L := L) ([Sm.by8 c.why] ++ c.id ++ Sm.numL c.gen) [Sm.by8 c.left] ([Sm.by8 c.client] ++ Sm.numL c.num ++ (Sm.by8 c.sec.length :: c.sec)) (by rw [hL]; unfold repB; simp) (a := 13) (n := 1) (by simp [hid, hl]) rfl
 have a5 := tk_at (L := L) ([Sm.by8 c.why] ++ c.id ++ Sm.numL c.gen ++ [Sm.by8 c.left]) [Sm.by8 c.client] (Sm.numL c.num ++ (Sm.by8 c.sec.length :: c.sec)) (by rw [hL]; unfold repB; simp) (a := 14) (n := 1) (by simp [hid, hl]) rfl
 have a6 := tk_at (L := L) ([Sm.by8 c.why] ++ c.id ++ Sm.numL c.gen ++ [Sm.by8 c.left, Sm.by8 c.client]) (Sm.numL c.num) (Sm.by8 c.sec.length :: c.sec) (by rw [hL]; unfold repB; simp) (a := 15) (n := 8) (by simp [hid, hl]) rfl
 have a7 := tk_at (L := L) ([Sm.by8 c.why] ++ c.id ++ Sm.numL c.gen ++ [Sm.by8 c.left, Sm.by8 c.client] ++ Sm.numL c.num) [Sm.by8 c.sec.length] c.sec (by rw [hL]; unfold repB; simp) (a := 23) (n := 1) (by simp [hid, hl]) rfl
 have a8 := tk_at (L := L) ([Sm.by8 c.why] ++ c.id ++ Sm.numL c.gen ++ [Sm.by8 c.left, Sm.by8 c.client] ++ Sm.numL c.num ++ [Sm.by8 c.sec.length]) c.sec [] (by rw [hL]; unfold repB; simp) (a := 24) (n := c.sec.length) (by simp [hid, hl]) rfl
 have e1 : r1 L = (1, false) := a1.1
 have e2 : r2 L = (5, false) := by unfold r2; rw [e1]; exact a2.1
 have e3 : r3 L = (13, false) := by unfold r3; rw [e2]; exact a3.1
 have e4 : r4 L = (14, false) := by unfold r4; rw [e3]; exact a4.1
 have e5 : r5 L = (15, false) := by unfold r5; rw [e4]; exact a5.1
 have e6 : r6 L = (23, false) := by unfold r6; rw [e5]; exact a6.1
 have e7 : r7 L = (24, false) := by unfold r7; rw [e6]; exact a7.1
 have en : rn L = c.sec.length := by
  have h := beV_by8 (x := (c.sec.length : Int)) (by omega) (by omega)
  unfold rn
  rw [e6, a7.2]
  omega
 have e8 : r8 L = (24 + c.sec.length, false) := by unfold r8; rw [e7, en]; exact a8.1
 have hll : L.length = 24 + c.sec.length := by rw [hL]; unfold repB; simp [hid, hl]; omega
 have hp : repP L = c := by
  unfold repP
  rw [e1, e2, e3, e4, e5, e7, en, a1.2, a2.2, a3.2, a4.2, a5.2, a6.2, a8.2, pad4_full hid, beV_by8 w0 (by omega), beV_by8 l0 (by omega), beV_by8 c0 (by omega), Sm.beV_num _ g0 (by omega), Sm.beV_num _ m0 (by omega)]
 have ho : okP L = true := by
  unfold okP
  rw [e8, hp, hr, hll]
  simp
 rw [← hL]
 unfold toRep
 rw [if_pos ho, hp]
theorem openF_ans {n : Int} {m N : Nat} {k : List UInt8} {c : Rc} (n0 : 0 ≤ n) (n1 : n < 4) (hN : m < N) (hm : m < 1000) (hid : c.id.length = 4) (g0 : 0 ≤ c.gen) (hr : Rcright c = true) (hc : c.client = n) (hn : c.num = m) :
  openF n k N (Sm.closeL (keyL n m k) m (Sm.by8 (128 + n)) (repB c)) = (c, 0) ∧ Sm.beV ((Sm.closeL (keyL n m k) m (Sm.by8 (128 + n)) (repB c)).take 8) = m := by
 have e8 : Sm.beV ((Sm.closeL (keyL n m k) m (Sm.by8 (128 + n)) (repB c)).take 8) = m := by
  rw [Sm.close_take]
  have h := Sm.beV_num (m : Int) (by omega) (by omega)
  omega
 have hs : c.sec.length ≤ 64 := ((Rcright_iff c).1 hr).2.2.2.2.2.2
 have hlen : (repB c).length ≤ 8176 := by
  unfold repB
  have hl : ∀ n : Int, (Sm.numL n).length = 8 := fun _ => rfl
  simp only [List.length_append, List.length_cons, List.length_nil, hid, hl]
  omega
 have hu := Sm.unc_close (keyL n m k) m (by omega) (by omega) (Sm.by8 (128 + n)) (repB c) hlen
 refine ⟨?_, e8⟩
 have h16 : ¬ (Sm.closeL (keyL n m k) m (Sm.by8 (128 + n)) (repB c)).length < 8 := by rw [Sm.closeL_len]; omega
 rw [openF_by h16 e8.symm hu.symm (toRep_repB hid g0 (by omega) hr).symm, if_neg (by omega), if_neg (fun h => h rfl), if_neg (fun h => h rfl), if_pos ⟨hc, hn⟩]
theorem reqF_rec {n num : Int} {k : List UInt8} {W : Wc} (h : W.op = 2) {pd : List UInt8} (hn : Sm.nrm (Sm.signs W.pin) = some pd) (n0 : 0 ≤ n) (n1 : n < 4) (hm : num ≤ 1099511627776) : reqF n num k W = (⟨2, W.id, Sm.pinL W.pin W.id, [], 0, z16, keyL n num k, n, num⟩, 0) := by
 rw [reqF_2 h hn, h]
 rw [if_pos]
 unfold Qc.right
 simp [n0, n1, hm]
structure CS (w0 w : World) (C : Nat) (n : Int) (k : List UInt8) (rv : Value) (got : List Bool) : Prop where
 x : Ex w0 w
 c : CI w w0.heap.size C n k rv got
section
variable {w0 w w' : World} {C : Nat} {n : Int} {k : List UInt8} {rv rv' : Value} {got got' : List Bool}
theorem CS.ext (h : CS w0 w C n k rv got) (x : Ex w w') : CS w0 w' C n k rv got := ⟨h.x.trans x, h.c.ext x⟩
theorem CI.ro {B : Nat} (h : CI w B C n k rv got) {g : Nat} (hg : rv.ownBlock = some g) : B ≤ g := (World.ownsRow.lt h.row g hg).1
theorem DI.ro {B : Nat} (h : DI w B C n k rv got) {g : Nat} (hg : rv.ownBlock = some g) : B ≤ g := (World.ownsRow.lt h.row g hg).1
theorem CS.tc (h : CS w0 w C n k rv got) (t : Tc C rv.ownBlock w w') (c : CI w' w0.heap.size C n k rv' got') : CS w0 w' C n k rv' got' := ⟨t.ex h.x h.c.lo (fun _ hg => h.c.ro hg), c⟩
theorem RB.tc9 {g B : Nat} {y : Rt} {cs : Array Value} (h : RB w g y) (t : Tc C rv.ownBlock w w') (hD : Bk w C 106 cs) (ho : ownB w B rv got) : RB w' g y := by
 refine ⟨h.1, t.bk h.2 ?_ (ownB_ne ho h.2 (by decide))⟩
 rintro rfl
 exact absurd (Bk.ty h.2 hD) (by decide)
end
def K3 : List UInt8 := [3, 0, 0, 0, 0, 0, 0, 0, 0, 0, 0, 0, 0, 0, 0, 0]
theorem built_k3 : Try.prog.built 36 [(0, .int .u8 3)] = some (Lib.byteCells K3).toArray := by kernel_rfl
theorem built_k0 : Try.prog.built 36 [] = some (Lib.byteCells z16).toArray := by kernel_rfl
def X4 : Wt := ⟨2, z4, ⟨#[49, 50, 51, 52]⟩, nilB, 0, ⟨#[]⟩⟩
def X2 : Wt := ⟨2, z4, ⟨#[49, 50]⟩, nilB, 0, ⟨#[]⟩⟩
theorem X4_i (w : World) : WI w X4 := ⟨⟨by decide, by decide, rfl, by decide, by decide, by decide, by decide, by decide⟩, nilB_in _ _⟩
theorem X2_i (w : World) : WI w X2 := ⟨⟨by decide, by decide, rfl, by decide, by decide, by decide, by decide, by decide⟩, nilB_in _ _⟩
theorem built_x4 : Try.prog.built 31 [(0, .int .i64 2), (2, .string ⟨#[49, 50, 51, 52]⟩)] = some X4.C.toArray := by kernel_rfl
theorem built_x2 : Try.prog.built 31 [(0, .int .i64 2), (2, .string ⟨#[49, 50]⟩)] = some X2.C.toArray := by kernel_rfl
def RA : Rt := ⟨0, z4, 0, 3, nilB, 1, 0⟩
theorem RA_ok : RA.Ok := ⟨by decide, by decide, rfl, by decide, by decide, by decide, by decide, by decide, by decide, by decide, by decide⟩
theorem built_ra : Try.prog.built 29 [(5, .int .i64 1), (3, .int .i64 3)] = some RA.C.toArray := by kernel_rfl
theorem RA_len : (repB RA.ct).length ≤ 8176 := by decide
theorem ra_open : openF 1 K3 1 (Sm.closeL (keyL 1 0 K3) 0 (Sm.by8 129) (repB RA.ct)) = (RA.ct, 0) ∧ Sm.beV ((Sm.closeL (keyL 1 0 K3) 0 (Sm.by8 129) (repB RA.ct)).take 8) = 0 :=
 openF_ans (n := 1) (m := 0) (N := 1) (k := K3) (c := RA.ct) (by decide) (by decide) (by decide) (by decide) rfl (by decide) (by decide) rfl rfl
theorem mk4 : makeF 1 0 K3 0 X4.ct = (Sm.closeL K3 1 (Sm.by8 0) (reqB ⟨2, z4, Sm.pinL X4.pin z4, [], 0, z16, keyL 1 0 K3, 1, 0⟩), ⟨2, z4, Sm.pinL X4.pin z4, [], 0, z16, keyL 1 0 K3, 1, 0⟩, 0) := by
 unfold makeF
 rw [if_neg (by decide), reqF_rec (W := X4.ct) rfl Sm.k3a (by decide) (by decide) (by decide)]
 rfl
theorem mk2 : makeF 1 1 K3 0 X2.ct = ([], zeroQt.ct, 23) := by
 unfold makeF
 rw [if_neg (by decide), reqF_none (W := X2.ct) (Or.inr (Or.inl rfl)) Sm.k3c]
 rfl
section
variable {o : Oper} {a : Act} {w : World} {K : Act → World → Prop} {Q : Exit → Act → World → Prop}
theorem ld_qkey (x : Operand) (g : Nat) (v : Qt) (ho : o.op = .load 36 x) (ha : a.eval x = .pointer (some ⟨g, 39, none⟩)) (h : QB w g v) (hk : K (a.put o.dst (digV v.key)) w) : o.wp Try.prog a w K Q := by
 obtain ⟨dd, hd⟩ : ∃ d, Try.prog.underlying 36 = some d ∧ d.isRow = true := ⟨_, Try.underlying36, rfl⟩
 exact wp_ldp (C := v.C) (Lib.byteCells v.key) x g 39 dd ho ha h.2 (Qt.key_at h.1) hd.1 hd.2 (by rw [Try.sizeDig, byteCells_len, h.1.keyN]) hk
end
theorem known22_any (w : World) : Calls Try.prog 13 #[] w fun e w' => e = .returned (.bool true) ∧ Ex w w' := by
 go_enter Try.func13, Try.ntmps13
 go_wp2_with ((with_reducible refine s7b ?_ ?_); (focus rfl))
 refine at9 (by go_simp) fun K0 hK => wp_build _ _ rfl _ built_k3 (hK _ _ ?_)
 clear hK
 go_wp2_with ((with_reducible refine s7b ?_ ?_); (focus rfl))
 refine (new_any 1 K3 rfl w).mono ?_
 rintro e w1 ⟨x1, ⟨h, _⟩ | ⟨_, C, rfl, ci⟩⟩
 ·exact absurd ⟨by decide, by decide⟩ h
 have S0 : Hid (CS w w1 C 1 K3 (.slice none 0 0) []) := Hi ⟨x1, ci⟩
 clear ci x1
 go_wp2_with ((with_reducible refine s7b ?_ ?_); (focus rfl))
 refine at9 (by go_simp) fun K0 hK => wp_build _ _ rfl _ built_k0 (hK _ _ ?_)
 clear hK
 go_wp2_with ((with_reducible refine s7b ?_ ?_); (focus rfl))
 refine (new_any 4 z16 rfl w1).mono ?_
 rintro e w2 ⟨x1, ⟨_, rfl⟩ | ⟨h, _⟩⟩
 ·replace S0 := Hi (S0.out.ext x1)
  clear x1
  go_wp2_with ((with_reducible refine s7b ?_ ?_); (focus rfl))
  refine at9 (by go_simp) fun K0 hK => wp_build _ _ rfl _ built_x4 (hK _ _ ?_)
  clear hK
  go_wp2_with ((with_reducible refine s7b ?_ ?_); (focus rfl))
  refine (make_any w.heap.size C 1 K3 _ [] 0 X4 w2 S0.out.c (by decide) (X4_i _)).mono ?_
  rintro e w3 ⟨⟨r, y, rfl, rl, rn, ⟨yo, yn⟩, yc⟩, _, hok⟩
  rw [show (([] : List Bool).length : Int) = 0 from rfl, mk4] at rl yc hok ⊢
  obtain ⟨rv1, ci, tc, _⟩ := hok rfl
  have S1 := Hi (S0.out.tc tc ci)
  have RL : Hid (16 < r.l.length) := Hi (by rw [rl, Sm.closeL_len]; unfold reqB; simp only [List.length_append, List.length_cons]; omega)
  have RN := Hi rn
  have YO := Hi yo
  have YK : Hid (y.key = keyL 1 0 K3) := Hi (congrArg Qc.key yc)
  have YCl : Hid (y.client = 1) := Hi (congrArg Qc.client yc)
  have YNm : Hid (y.num = 0) := Hi (congrArg Qc.num yc)
  clear rl rn yo yn yc hok ci tc S0
  go_wp2_with ((with_reducible refine s7b ?_ ?_); (focus rfl))
  obtain ⟨i1, hi1⟩ : ∃ i, i = w3.heap.size := ⟨_, rfl⟩
  refine at9 (by go_simp) fun K0 hK => st_q _ _ w3.heap.size y rfl rfl rfl YO.out (Bk.new rfl _ _) (by rfl) (fun w4 hd ho => hK _ _ ?_)
  clear hK
  have x3 : Ex w3 w4 := ho.below w3.heap.size (Nat.le_refl _) w3 (Ex.alloc w3 _)
  replace S1 := Hi (S1.out.ext x3)
  replace RN := Hi (RN.out.ext x3)
  have Y := Hi hd
  rw [← hi1] at Y ⊢
  clear hi1 hd ho x3
  go_wp2_with ((with_reducible refine s7b ?_ ?_); (focus rfl))
  refine at9 (by go_simp) fun K0 hK => wp_build _ _ rfl _ built_x2 (hK _ _ ?_)
  clear hK
  go_wp2_with ((with_reducible refine s7b ?_ ?_); (focus rfl))
  refine (make_any w.heap.size C 1 K3 rv1 [false] 0 X2 w4 S1.out.c (by decide) (X2_i _)).mono ?_
  rintro e w5 ⟨⟨r2, y2, rfl, rl2, rn2, ⟨yo2, yn2⟩, yc2⟩, hno, _⟩
  rw [show (([false] : List Bool).length : Int) = 1 from rfl, mk2] at hno ⊢
  have x5 := hno (by decide)
  replace S1 := Hi (S1.out.ext x5)
  replace RN := Hi (RN.out.ext x5)
  replace Y := Hi (Y.out.ext x5)
  have YO2 := Hi yo2
  clear rl2 rn2 yo2 yn2 yc2 hno x5
  go_wp2_with ((with_reducible refine s7b ?_ ?_); (focus rfl))
  obtain ⟨i2, hi2⟩ : ∃ i, i = w5.heap.size := ⟨_, rfl⟩
  refine at9 (by go_simp) fun K0 hK => st_q _ _ w5.heap.size y2 rfl rfl rfl YO2.out (Bk.new rfl _ _) (by rfl) (fun w6 hd ho => hK _ _ ?_)
  clear hK
  have x3 : Ex w5 w6 := ho.below w5.heap.size (Nat.le_refl _) w5 (Ex.alloc w5 _)
  replace S1 := Hi (S1.out.ext x3)
  replace RN := Hi (RN.out.ext x3)
  replace Y := Hi (Y.out.ext x3)
  rw [← hi2]
  clear hi2 hd ho x3
  go_wp2_with fail
  have hS0 : ∀ (listed : Array Bool) (f : Nat → Value), (∀ i, listed.getD i false = false) → (LR 3 4 5 6 8 w6 (repB RA.ct) (Sm.closeL (keyL 1 0 K3) 0 (Sm.by8 129) (repB RA.ct))) listed f w6.drew := fun listed f h0 => LR.start h0 (ex_drewN w6 1)
  obtain ⟨T, hT⟩ : ∃ T : List (Value → Prop), T = [(fun zz => zz = .pointer (some ⟨i1, 39, none⟩)), (fun zz => zz = digV (keyL 1 0 K3)), (fun zz => zz = RA.V), (fun _ => True), (fun zz => ∃ v : Value, zz = .tuple #[v, .int .i64 0]), (fun zz => ∃ v : Value, zz = .tuple #[v, .int .i64 0]), (fun _ => True), (fun zz => zz = .int .i64 0), (fun _ => True), (fun zz => zz = .int .i64 0)] := ⟨_, rfl⟩
  refine wp_region_gen (JS T ([(5, 4), (6, 5), (8, 6)] : List (Nat × Nat)) (LR 3 4 5 6 8 w6 (repB RA.ct) (Sm.closeL (keyL 1 0 K3) 0 (Sm.by8 129) (repB RA.ct)))) (by kernel_rfl) (by kernel_rfl) (by kernel_rfl) (fitB_spec (by kernel_rfl)) (fun listed f h => JS.start listed f h (hS0 listed f h)) ?_ ?_
  ·intro i o ho
   have hi : i < 10 := (Array.getElem?_eq_some_iff.1 ho).1
   have hi' : i = 0 ∨ i = 1 ∨ i = 2 ∨ i = 3 ∨ i = 4 ∨ i = 5 ∨ i = 6 ∨ i = 7 ∨ i = 8 ∨ i = 9 := by omega
   clear hi
   rcases hi' with rfl | rfl | rfl | rfl | rfl | rfl | rfl | rfl | rfl | rfl
   all_goals (simp only [List.getElem?_toArray, List.getElem?_cons_zero, List.getElem?_cons_succ, Option.some.injEq] at ho; subst ho; intro listed f a w2 hJ hsz hls hun hdep hout hlat; first | (rw [if_pos (by rfl)]; intro K hK) | skip)
   ·have q6 := hout 6 ob
    rw [gd9] at q6
    clear hsz hdep hout hlat
    go_simp
    exact hK _ _ (hJ.na hls hT (hJ.st.keep (by decide) (Ex.refl _) (hJ.st.1.step (by decide) (by decide) (by decide) (by decide) (Ex.refl _))))
   ·have q52 := hJ.is hT (hdep ⟨0, .data⟩ (by simp) rfl) rfl _ rfl _ rfl
    exact ld_qkey (.tmp 52) i1 y rfl q52 (Y.out.ext hJ.st.1.1) (hK _ _ (hJ.nx hls hT rfl (by exact congrArg digV YK.out) (hJ.st.keep (by decide) (Ex.refl _) (hJ.st.1.step (by decide) (by decide) (by decide) (by decide) (Ex.refl _))) nh))
   ·exact wp_build _ _ rfl _ built_ra (hK _ _ (hJ.nx hls hT rfl rfl (hJ.st.keep (by decide) (Ex.refl _) (hJ.st.1.step (by decide) (by decide) (by decide) (by decide) (Ex.refl _))) nh))
   ·have q54 := hJ.iq hT (hdep ⟨2, .data⟩ (by simp) rfl) rfl _ rfl _ rfl
    clear hsz hdep hout hlat
    go_simp
    refine (rrep_any RA w2 ⟨RA_ok, nilB_in _ _⟩ (by decide)).mono ?_
    rintro e w4 ⟨v, rfl, vo, x3⟩
    exact hK _ _ (hJ.nx hls hT rfl (by exact trivial) (hJ.st.row (by decide) (by decide) (by decide) (by decide) x3 (ownU_less vo hJ.st.1.1.size)) nh)
   ·have q53 := hJ.is hT (hdep ⟨1, .data⟩ (by simp) rfl) rfl _ rfl _ rfl
    have dd55 := hdep ⟨3, .data⟩ (by simp) rfl
    have q55 := dd55.2 _ rfl _ rfl
    have nt := unq hJ.ord 5 4 hun
    have nx : listed.getD 6 false = false := by
     cases hc : listed.getD 6 false with
     | false => rfl
     | true => exact absurd (hJ.ord (6, 5) (by simp) hc) (by rw [nt]; decide)
    have no : listed.getD 8 false = false := by
     cases hc : listed.getD 8 false with
     | false => rfl
     | true => exact absurd (hJ.ord (8, 6) (by simp) hc) (by rw [nx]; decide)
    have l18 := (hdep ⟨3, .data⟩ (by simp) rfl).1
    obtain ⟨p9, e9, n9, i9, _⟩ := own_pt (hJ.st.2 l18)
    rw [e9] at q55
    rw [gd9] at q53
    rw [gd9] at q55
    clear hsz hdep hout hlat
    go_simp
    refine (rclose9_any (keyL 1 0 K3) (keyL_len _ _ _) 0 (by decide) (by decide) 129 (by decide) (by decide) p9 w2 i9 (by rw [n9]; exact RA_len)).mono ?_
    rintro e w4 ⟨v, rfl, vo, x3⟩
    rw [n9] at vo
    exact hK _ _ (hJ.nx hls hT rfl (by exact ⟨_, rfl⟩) (hJ.st.keep (by decide) x3 (hJ.st.1.call (by decide) (by decide) (by decide) nt nx no x3 (ofSm_own (Sm.own_less vo hJ.st.1.1.size)))) nh)
   ·have dd56 := hdep ⟨4, .data⟩ (by simp) rfl
    have q56 := dd56.2 _ rfl _ rfl
    have h56 := hJ.vals 4 dd56.1
    rw [hT] at h56
    have h56 : (fun zz => ∃ v : Value, zz = .tuple #[v, .int .i64 0]) (f 4) := h56
    clear dd56
    have hl4 := (hdep ⟨4, .data⟩ (by simp) rfl).1
    have hord : ∀ x ∈ ([(5, 4), (6, 5), (8, 6)] : List (Nat × Nat)), x.1 = 5 → listed.getD x.2 false = true := (by intro x hx he; simp only [List.mem_cons, List.not_mem_nil, or_false] at hx; rcases hx with rfl | rfl | rfl; all_goals first | (exact absurd he (by decide)) | assumption)
    exact wp_mw _ rfl q56 (hK _ _ (hJ.nx hls hT rfl (by exact h56) (hJ.st.keep (by decide) (Ex.refl _) (hJ.st.1.tup (by decide) (by decide) (by decide))) hord))
   ·have dd51 := hdep ⟨5, .data⟩ (by simp) rfl
    have q51 := dd51.2 _ rfl _ rfl
    have h51 := hJ.vals 5 dd51.1
    rw [hT] at h51
    have h51 : (fun zz => ∃ v : Value, zz = .tuple #[v, .int .i64 0]) (f 5) := h51
    clear dd51
    have hl5 := (hdep ⟨5, .data⟩ (by simp) rfl).1
    have hord : ∀ x ∈ ([(5, 4), (6, 5), (8, 6)] : List (Nat × Nat)), x.1 = 6 → listed.getD x.2 false = true := (by intro x hx he; simp only [List.mem_cons, List.not_mem_nil, or_false] at hx; rcases hx with rfl | rfl | rfl; all_goals first | (exact absurd he (by decide)) | assumption)
    have l17 := (hdep ⟨5, .data⟩ (by simp) rfl).1
    obtain ⟨v9, e9, _, e8, _⟩ := hJ.st.1.2 (hJ.ord (5, 4) (by simp) l17)
    have z9 : f 5 = .tuple #[v9, .int .i64 0] := (e8 l17).trans e9
    rw [z9] at q51
    rw [gd9] at q51
    clear hsz hdep hout hlat e8 e9
    go_simp
    exact hK _ _ (hJ.nx hls hT rfl (by exact trivial) (hJ.st.keep (by decide) (Ex.refl _) (hJ.st.1.ext (by decide) (by decide) (by decide) l17 z9)) hord)
   ·have dd51 := hdep ⟨5, .data⟩ (by simp) rfl
    have q51 := dd51.2 _ rfl _ rfl
    have h51 := hJ.vals 5 dd51.1
    rw [hT] at h51
    have h51 : (fun zz => ∃ v : Value, zz = .tuple #[v, .int .i64 0]) (f 5) := h51
    clear dd51
    obtain ⟨v9, e9⟩ := h51
    rw [e9] at q51
    rw [gd9] at q51
    clear hsz hdep hout hlat e9
    go_simp
    exact hK _ _ (hJ.nx hls hT rfl rfl (hJ.st.keep (by decide) (Ex.refl _) (hJ.st.1.step (by decide) (by decide) (by decide) (by decide) (Ex.refl _))) nh)
   ·have dd57 := hdep ⟨6, .data⟩ (by simp) rfl
    have q57 := dd57.2 _ rfl _ rfl
    have hl6 := (hdep ⟨6, .data⟩ (by simp) rfl).1
    have hord : ∀ x ∈ ([(5, 4), (6, 5), (8, 6)] : List (Nat × Nat)), x.1 = 8 → listed.getD x.2 false = true := (by intro x hx he; simp only [List.mem_cons, List.not_mem_nil, or_false] at hx; rcases hx with rfl | rfl | rfl; all_goals first | (exact absurd he (by decide)) | assumption)
    have l18 := (hdep ⟨6, .data⟩ (by simp) rfl).1
    refine wp_asg9 _ rfl (hK _ _ ?_)
    rw [show a.eval (.tmp 57) = f 6 from q57]
    exact hJ.nx hls hT rfl (by exact trivial) (hJ.st.keep (by decide) (Ex.refl _) (hJ.st.1.put (by decide) (by decide) (by decide) l18)) hord
   have q58 := hJ.iq hT (hdep ⟨7, .data⟩ (by simp) rfl) rfl _ rfl _ rfl
   clear hsz hdep hout hlat
   go_simp
   exact hK _ _ (hJ.na hls hT (hJ.st.keep (by decide) (Ex.refl _) (hJ.st.1.step (by decide) (by decide) (by decide) (by decide) (Ex.refl _))))
  intro listed f w7 hall hJ
  have f9 := hJ.fa hT (hall 9 (by simp)) rfl
  have hst := hJ.st
  simp only [putAll, Act.put, List.setIfInBounds_toArray, List.set_cons_zero, List.set_cons_succ, Nat.zero_add, Nat.reduceAdd]
  obtain ⟨v9, _, o9, _, _, a9⟩ := hst.1.2 (hall 4 (by simp))
  have a9 := a9 (hall 8 (by simp))
  have x9 := hst.1.1
  clear hst hS0
  rw [a9]
  obtain ⟨lp, rfl, ll, ln⟩ := own_pn o9
  have LPL := Hi ll
  have LPN := Hi (ln.less (Nat.zero_le _))
  clear o9 ll ln a9
  rw [f9]
  clear f9
  clear hJ hall hT
  replace S1 := Hi (S1.out.ext x9)
  replace RN := Hi (RN.out.ext x9)
  replace Y := Hi (Y.out.ext x9)
  clear x9
  go_wp2_with ((with_reducible refine s7b ?_ ?_); (focus rfl))
  refine (open9_any w.heap.size C 1 K3 rv1 [false] lp w7 S1.out.c LPN.out.1 (by rw [LPL.out, Sm.closeL_len]; have := RA_len; omega)).mono ?_
  rintro e w8 ⟨⟨ya, rfl, ⟨yo, yn⟩, yc⟩, _, hok⟩
  rw [LPL.out, show (([false] : List Bool).length) = 1 from rfl, ra_open.1, ra_open.2] at hok
  rw [LPL.out, show (([false] : List Bool).length) = 1 from rfl, ra_open.1] at yc ⊢
  obtain ⟨ci, tc⟩ := hok rfl
  replace Y := Hi (QB.tc9 Y.out tc S1.out.c.blk S1.out.c.row)
  replace S1 := Hi (S1.out.tc tc ci)
  have YL : Hid (ya.left = 3) := Hi (congrArg Rc.left yc)
  have YO3 := Hi yo
  clear hok ci tc yo yn yc
  go_wp2_with ((with_reducible refine s7b ?_ ?_); (focus rfl))
  obtain ⟨i3, hi3⟩ : ∃ i, i = w8.heap.size := ⟨_, rfl⟩
  refine at9 (by go_simp) fun K0 hK => st_r _ _ w8.heap.size ya rfl rfl rfl YO3.out (Bk.new rfl _ _) (by rfl) (fun w9 hd ho => hK _ _ ?_)
  clear hK
  have x3 : Ex w8 w9 := ho.below w8.heap.size (Nat.le_refl _) w8 (Ex.alloc w8 _)
  replace S1 := Hi (S1.out.ext x3)
  replace Y := Hi (Y.out.ext x3)
  have YA := Hi hd
  rw [← hi3] at YA ⊢
  clear hi3 hd ho x3
  go_wp2_with ((with_reducible refine s7b ?_ ?_); (focus rfl))
  refine (open9_any w.heap.size C 1 K3 rv1 _ nilB w9 S1.out.c (nilB_in _ _) (by decide)).mono ?_
  rintro e wa ⟨⟨yb, rfl, ⟨yo, yn⟩, yc⟩, hno, _⟩
  rw [show ∀ N, openF 1 K3 N nilB.l = (zeroRc, 12) from fun N => rfl] at hno ⊢
  have x3 := hno (by decide)
  replace S1 := Hi (S1.out.ext x3)
  replace Y := Hi (Y.out.ext x3)
  replace YA := Hi (YA.out.ext x3)
  have YO4 := Hi yo
  clear hno yo yn yc x3
  go_wp2_with ((with_reducible refine s7b ?_ ?_); (focus rfl))
  obtain ⟨i4, hi4⟩ : ∃ i, i = wa.heap.size := ⟨_, rfl⟩
  refine at9 (by go_simp) fun K0 hK => st_r _ _ wa.heap.size yb rfl rfl rfl YO4.out (Bk.new rfl _ _) (by rfl) (fun wb hd ho => hK _ _ ?_)
  clear hK
  have x3 : Ex wa wb := ho.below wa.heap.size (Nat.le_refl _) wa (Ex.alloc wa _)
  replace S1 := Hi (S1.out.ext x3)
  replace Y := Hi (Y.out.ext x3)
  replace YA := Hi (YA.out.ext x3)
  rw [← hi4]
  clear hi4 hd ho x3
  have d1 := Y.out.cells.2.2.2.1
  have d2 := Y.out.cells.2.2.2.2
  have d3 := YA.out.cells.2.2.1
  rw [YCl.out] at d1
  rw [YNm.out] at d2
  rw [YL.out] at d3
  obtain ⟨lr, hlr⟩ : ∃ x, x = r.l.length := ⟨_, rfl⟩
  have hrv : r.V = .slice r.ad lr r.cap := by unfold Pt.V; rw [hlr]
  rw [hrv]
  have q0 : (16 : Int) < (lr : Int) := by have := RL.out; omega
  clear hrv hlr
  go_wp2_with fail
  refine (asked_any w.heap.size C 1 K3 rv1 _ wb S1.out.c).mono ?_
  rintro e wc ⟨rfl, rfl⟩
  rw [show (([false] : List Bool).set 0 true).length = 1 from rfl]
  go_wp2_with fail
  refine (waits_any w.heap.size C 1 K3 rv1 _ wb S1.out.c).mono ?_
  rintro e wc ⟨rfl, rfl⟩
  rw [show waits (([false] : List Bool).set 0 true) = 0 from rfl]
  go_wp2_with fail
  go_ret
  exact ⟨rfl, S1.out.x⟩
 exact absurd h.2 (by decide)
end Go.Proofs.Ytopamplmpfndlaa.Cl
namespace Go.Proofs.Ytopamplmpfndlaa.Cl
open Go.RowKit
def gotF (got : List Bool) (R : Rc × Int) (N : Nat) : List Bool := if R.2 = 0 then got.set N true else got
def gotM (got : List Bool) (R : List UInt8 × Qc × Int) : List Bool := if R.2.2 = 0 then got ++ [false] else got
theorem gotF_len (got : List Bool) (R : Rc × Int) (N : Nat) : (gotF got R N).length = got.length := by
 unfold gotF
 split
 ·exact List.length_set
 rfl
theorem gotM_len (got : List Bool) (R : List UInt8 × Qc × Int) : (gotM got R).length ≤ got.length + 1 := by
 unfold gotM
 split
 ·simp
 omega
section
variable {w w' : World} {B C N : Nat} {n : Int} {k : List UInt8} {rv : Value} {got : List Bool} {R : Rc × Int} {e : Ending}
theorem OpPost.both (h : OpPost B C n k rv got N R w e w') (hc : CI w B C n k rv got) : ReTup R e w' ∧ Tc C rv.ownBlock w w' ∧ CI w' B C n k rv (gotF got R N) := by
 refine ⟨h.1, ?_⟩
 unfold gotF
 by_cases h0 : R.2 = 0
 ·rw [if_pos h0]
  exact ⟨(h.2.2 h0).2, (h.2.2 h0).1⟩
 rw [if_neg h0]
 exact ⟨Ex.tc _ _ (h.2.1 h0), hc.ext (h.2.1 h0)⟩
theorem ROpPost.both (h : ROpPost B C n k rv got N R w e w') (hc : DI w B C n k rv got) : ReTup R e w' ∧ Tc C rv.ownBlock w w' ∧ DI w' B C n k rv (gotF got R N) := by
 refine ⟨h.1, ?_⟩
 unfold gotF
 by_cases h0 : R.2 = 0
 ·rw [if_pos h0]
  exact ⟨(h.2.2 h0).2, (h.2.2 h0).1⟩
 rw [if_neg h0]
 exact ⟨Ex.tc _ _ (h.2.1 h0), hc.ext (h.2.1 h0)⟩
end
section
variable {w w' : World} {B C : Nat} {n : Int} {k : List UInt8} {rv : Value} {got : List Bool} {R : List UInt8 × Qc × Int} {e : Ending}
theorem MakePost.both (h : MakePost B C n k rv got R w e w') (hc : CI w B C n k rv got) : MkTup R e w' ∧ ∃ rv', Tc C rv.ownBlock w w' ∧ CI w' B C n k rv' (gotM got R) ∧ Lies w rv rv' := by
 refine ⟨h.1, ?_⟩
 unfold gotM
 by_cases h0 : R.2.2 = 0
 ·rw [if_pos h0]
  obtain ⟨rv', a, b, c⟩ := h.2.2 h0
  exact ⟨rv', b, a, c⟩
 rw [if_neg h0]
 exact ⟨rv, Ex.tc _ _ (h.2.1 h0), hc.ext (h.2.1 h0), Or.inl rfl⟩
theorem RMakePost.both (h : RMakePost B C n k rv got R w e w') (hc : DI w B C n k rv got) : MkTup R e w' ∧ ∃ rv', Tc C rv.ownBlock w w' ∧ DI w' B C n k rv' (gotM got R) ∧ Lies w rv rv' := by
 refine ⟨h.1, ?_⟩
 unfold gotM
 by_cases h0 : R.2.2 = 0
 ·rw [if_pos h0]
  obtain ⟨rv', a, b, c⟩ := h.2.2 h0
  exact ⟨rv', b, a, c⟩
 rw [if_neg h0]
 exact ⟨rv, Ex.tc _ _ (h.2.1 h0), hc.ext (h.2.1 h0), Or.inl rfl⟩
end
theorem ownB_tc {w w' : World} {B C : Nat} {v rv : Value} {got g2 : List Bool} {t : TypeId} {cs : Array Value} (h : ownB w B v got) (k : Tc C rv.ownBlock w w') (hC : Bk w C t cs) (ht : t ≠ 4) (ap : ∀ g, rv.ownBlock = some g → v.ownBlock ≠ some g) : ownB w' B v got := by
 obtain ⟨h1, h2 | ⟨g, cap, cur, e, hB, hh, r⟩⟩ := h
 ·exact ⟨h1, .inl h2⟩
 refine ⟨h1, .inr ⟨g, cap, cur, e, hB, (k.block g (blk_lt hh) ?_ ?_).trans hh, r⟩⟩
 ·rintro rfl
  have hb : Bk w g 4 cur := hh
  exact ht (Bk.ty hC hb)
 intro e2
 exact ap g e2.symm (by rw [e]; rfl)
structure CD (w0 w : World) (C D : Nat) (n : Int) (k : List UInt8) (rv rd : Value) (gc gd : List Bool) : Prop where
 x : Ex w0 w
 c : CI w w0.heap.size C n k rv gc
 d : DI w w0.heap.size D n k rd gd
 ap : ∀ g, rv.ownBlock = some g → rd.ownBlock ≠ some g
section
variable {w0 w w' : World} {C D : Nat} {n : Int} {k : List UInt8} {rv rd rv' rd' : Value} {gc gd gc' gd' : List Bool}
theorem CD.ext (h : CD w0 w C D n k rv rd gc gd) (x : Ex w w') : CD w0 w' C D n k rv rd gc gd := ⟨h.x.trans x, h.c.ext x, h.d.ext x, h.ap⟩
theorem CD.ne (h : CD w0 w C D n k rv rd gc gd) : D ≠ C := by
 rintro rfl
 exact absurd (Bk.ty h.c.blk h.d.blk) (by decide)
theorem CD.left (h : CD w0 w C D n k rv rd gc gd) (t : Tc C rv.ownBlock w w') (c : CI w' w0.heap.size C n k rv' gc') (l : Lies w rv rv') : CD w0 w' C D n k rv' rd gc' gd := by
 refine ⟨t.ex h.x h.c.lo (fun _ hg => h.c.ro hg), c, ⟨t.bk h.d.blk h.ne (ownB_ne h.c.row h.d.blk (by decide)), ownB_tc (g2 := gc) h.d.row t h.c.blk (by decide) h.ap, h.d.lo, h.d.kN, h.d.n0, h.d.n1, h.d.few⟩, fun g hg hd => ?_⟩
 rcases l with e | e
 ·rw [e] at hg; exact h.ap g hg hd
 have h1 := e g hg
 have h2 := (World.ownsRow.lt h.d.row g hd).2
 omega
theorem CD.right (h : CD w0 w C D n k rv rd gc gd) (t : Tc D rd.ownBlock w w') (d : DI w' w0.heap.size D n k rd' gd') (l : Lies w rd rd') : CD w0 w' C D n k rv rd' gc gd' := by
 refine ⟨t.ex h.x h.d.lo (fun _ hg => h.d.ro hg), ⟨t.bk h.c.blk (Ne.symm h.ne) (ownB_ne h.d.row h.c.blk (by decide)), ownB_tc (g2 := gc) h.c.row t h.d.blk (by decide) (fun g e1 e2 => h.ap g e2 e1), h.c.lo, h.c.kN, h.c.n0, h.c.n1, h.c.few⟩, d, fun g hg hd => ?_⟩
 rcases l with e | e
 ·rw [e] at hd; exact h.ap g hg hd
 have h1 := e g hd
 have h2 := (World.ownsRow.lt h.c.row g hg).2
 omega
def PS (w0 w : World) (p : Pt) : Prop := PN w 0 p ∨ p.In w0 w0.heap.size
theorem PS.inn {p : Pt} (h : PS w0 w p) (x : Ex w0 w) : p.In w w.heap.size := by
 rcases h with h | h
 ·exact h.1
 exact h.ext x
theorem PS.left {p : Pt} (h : PS w0 w p) (c : CD w0 w C D n k rv rd gc gd) (t : Tc C rv.ownBlock w w') : PS w0 w' p := h.imp (fun h => PN.tc9 h t c.c.blk c.c.row) id
theorem PS.right {p : Pt} (h : PS w0 w p) (c : CD w0 w C D n k rv rd gc gd) (t : Tc D rd.ownBlock w w') : PS w0 w' p := h.imp (fun h => PN.td9 h t c.d.blk c.d.row) id
theorem PS.ext {p : Pt} (h : PS w0 w p) (x : Ex w w') : PS w0 w' p := h.imp (fun h => h.ext x) id
theorem RB.right {g : Nat} {y : Rt} (h : RB w g y) (c : CD w0 w C D n k rv rd gc gd) (t : Tc D rd.ownBlock w w') : RB w' g y := by
 refine ⟨h.1, t.bk h.2 ?_ (ownB_ne c.d.row h.2 (by decide))⟩
 rintro rfl
 exact absurd (Bk.ty h.2 c.d.blk) (by decide)
theorem QB.right {g : Nat} {y : Qt} (h : QB w g y) (c : CD w0 w C D n k rv rd gc gd) (t : Tc D rd.ownBlock w w') : QB w' g y := by
 refine ⟨h.1, t.bk h.2 ?_ (ownB_ne c.d.row h.2 (by decide))⟩
 rintro rfl
 exact absurd (Bk.ty h.2 c.d.blk) (by decide)
theorem WB.left {g : Nat} {y : Wt} (h : WB w g y) (c : CD w0 w C D n k rv rd gc gd) (t : Tc C rv.ownBlock w w') : WB w' g y := by
 refine ⟨h.1, t.bk h.2 ?_ (ownB_ne c.c.row h.2 (by decide))⟩
 rintro rfl
 exact absurd (Bk.ty h.2 c.c.blk) (by decide)
end
def OpensPost (w0 : World) (C D : Nat) (n : Int) (k : List UInt8) (rv rd : Value) (got : List Bool) (e : Ending) (w' : World) : Prop := e = .returned (.bool true) ∧ ∃ got', CD w0 w' C D n k rv rd got' got' ∧ got'.length = got.length
theorem opens_any (w0 w : World) (C D : Nat) (n : Int) (k : List UInt8) (rv rd : Value) (got : List Bool) (p : Pt) (h : CD w0 w C D n k rv rd got got) (hp : PS w0 w p) (hbig : p.l.length ≤ 9223372036854775807) : Calls Try.prog 52 #[.pointer (some ⟨C, 0, none⟩), .pointer (some ⟨D, 0, none⟩), p.V] w (OpensPost w0 C D n k rv rd got) := by
 have H := Hi h
 have HP := Hi hp
 have HB := Hi hbig
 obtain ⟨RF, hRF⟩ : ∃ x, x = openF n k got.length p.l := ⟨_, rfl⟩
 obtain ⟨m9, h9⟩ : ∃ x, x = Sm.beV (p.l.take 8) := ⟨_, rfl⟩
 have HRF := Hi hRF
 have H9 := Hi h9
 clear h hp hbig hRF h9
 go_enter Try.func52, Try.ntmps52
 go_wp2_with ((with_reducible refine s7b ?_ ?_); (focus rfl))
 refine (open9_any w0.heap.size C n k rv got p w H.out.c (HP.out.inn H.out.x) HB.out).mono ?_
 rintro e w1 h1
 rw [← HRF.out, ← H9.out] at h1
 obtain ⟨⟨y, rfl, ⟨yo, yn⟩, yc⟩, tc, ci⟩ := h1.both H.out.c
 replace HP := Hi (HP.out.left H.out tc)
 replace H := Hi (H.out.left tc ci (Or.inl rfl))
 have YO := Hi yo
 have YN := Hi yn
 have YC := Hi yc
 clear h1 tc ci yo yn yc
 go_wp2_with ((with_reducible refine s7b ?_ ?_); (focus rfl))
 obtain ⟨i1, hi1⟩ : ∃ i, i = w1.heap.size := ⟨_, rfl⟩
 refine at9 (by go_simp) fun K0 hK => st_r _ _ w1.heap.size y rfl rfl rfl YO.out (Bk.new rfl _ _) (by rfl) (fun w2 hd ho => hK _ _ ?_)
 clear hK
 have x3 : Ex w1 w2 := ho.below w1.heap.size (Nat.le_refl _) w1 (Ex.alloc w1 _)
 replace H := Hi (H.out.ext x3)
 replace HP := Hi (HP.out.ext x3)
 replace YN := Hi (YN.out.ext x3)
 have Y := Hi hd
 rw [← hi1] at Y ⊢
 clear hi1 hd ho x3
 go_wp2_with ((with_reducible refine s7b ?_ ?_); (focus rfl))
 refine (ropen9_any w0.heap.size D n k rd got p w2 H.out.d (HP.out.inn H.out.x) HB.out).mono ?_
 rintro e w3 h1
 rw [← HRF.out, ← H9.out] at h1
 obtain ⟨⟨z, rfl, ⟨zo, zn⟩, zc⟩, tc, di⟩ := h1.both H.out.d
 replace Y := Hi (RB.right Y.out H.out tc)
 replace YN := Hi (PN.td9 YN.out tc H.out.d.blk H.out.d.row)
 replace H := Hi (H.out.right tc di (Or.inl rfl))
 have ZO := Hi zo
 have ZN := Hi zn
 have ZC := Hi zc
 clear h1 tc di zo zn zc HP
 go_wp2_with ((with_reducible refine s7b ?_ ?_); (focus rfl))
 obtain ⟨i2, hi2⟩ : ∃ i, i = w3.heap.size := ⟨_, rfl⟩
 refine at9 (by go_simp) fun K0 hK => st_r _ _ w3.heap.size z rfl rfl rfl ZO.out (Bk.new rfl _ _) (by rfl) (fun w4 hd ho => hK _ _ ?_)
 clear hK
 have x3 : Ex w3 w4 := ho.below w3.heap.size (Nat.le_refl _) w3 (Ex.alloc w3 _)
 replace H := Hi (H.out.ext x3)
 replace YN := Hi (YN.out.ext x3)
 replace ZN := Hi (ZN.out.ext x3)
 replace Y := Hi (Y.out.ext x3)
 have Z := Hi hd
 rw [← hi2] at Z ⊢
 clear hi2 hd ho x3
 go_wp2_with ((with_reducible refine s7b ?_ ?_); (focus rfl))
 refine at9 (by go_simp) fun K0 hK => ld_r _ i1 y rfl rfl Y.out (hK _ _ ?_)
 clear hK
 go_wp2_with ((with_reducible refine s7b ?_ ?_); (focus rfl))
 refine at9 (by go_simp) fun K0 hK => ld_r _ i2 z rfl rfl Z.out (hK _ _ ?_)
 clear hK
 go_wp2_with ((with_reducible refine s7b ?_ ?_); (focus rfl))
 refine (reps_any y z (YC.out.trans ZC.out.symm) w4 ⟨YO.out, YN.out.1⟩ ⟨ZO.out, ZN.out.1⟩).mono ?_
 rintro e w5 ⟨rfl, x5⟩
 replace H := Hi (H.out.ext x5)
 clear x5
 go_wp2_with fail
 go_ret
 exact ⟨rfl, _, H.out, gotF_len _ _ _⟩
end Go.Proofs.Ytopamplmpfndlaa.Cl
namespace Go.Proofs.Ytopamplmpfndlaa.Cl
open Go.RowKit
structure Ak where
 kind : Int
 i : Int
 member : Int
 turn : Int
 op : Int
 id : Int
 pin : Int
 lim : Int
 own : ByteArray
 sec : Pt
 r : Rt
 b : Pt
 raw : Wt
def Ak.C (x : Ak) : List Value := [.int .i64 x.kind, .int .i64 x.i, .int .i64 x.member, .int .i64 x.turn, .int .i64 x.op, .int .i64 x.id, .int .i64 x.pin, .int .i64 x.lim, .string x.own, x.sec.V] ++ x.r.C ++ [x.b.V] ++ x.raw.C
def Ak.V (x : Ak) : Value := .agg x.C.toArray
def i64 (n : Int) : Prop := -9223372036854775808 ≤ n ∧ n ≤ 9223372036854775807
structure AI (w : World) (x : Ak) : Prop where
 kind : i64 x.kind
 i : i64 x.i
 member : i64 x.member
 turn : i64 x.turn
 op : i64 x.op
 id : i64 x.id
 pin : i64 x.pin
 lim : i64 x.lim
 own : x.own.size ≤ 140737488351232
 sec : x.sec.In w w.heap.size
 secN : x.sec.l.length ≤ 140737488355328
 r : RI w x.r
 rN : x.r.sec.l.length ≤ 140737488355328
 b : x.b.In w w.heap.size
 bN : x.b.l.length ≤ 140737488355328
 raw : WI w x.raw
theorem AI.ext {w w' : World} {x : Ak} (h : AI w x) (k : Ex w w') : AI w' x := ⟨h.kind, h.i, h.member, h.turn, h.op, h.id, h.pin, h.lim, h.own, h.sec.ext k, h.secN, h.r.ext k, h.rN, h.b.ext k, h.bN, h.raw.ext k⟩
theorem Ak.len {w : World} {x : Ak} (h : AI w x) : x.C.length = 30 := by
 unfold Ak.C
 simp only [List.length_append, List.length_cons, List.length_nil, Rt.len h.r.ok, Wt.len h.raw.ok]
def AB (w : World) (g : Nat) (x : Ak) : Prop := Bk w g 33 x.C.toArray
theorem AB.at {w : World} {g : Nat} {x : Ak} (h : AB w g x) : w.cell? ⟨g, 3, none⟩ = some (.int .i64 x.turn) ∧ w.cell? ⟨g, 4, none⟩ = some (.int .i64 x.op) ∧ w.cell? ⟨g, 5, none⟩ = some (.int .i64 x.id) ∧ w.cell? ⟨g, 6, none⟩ = some (.int .i64 x.pin) ∧ w.cell? ⟨g, 7, none⟩ = some (.int .i64 x.lim) ∧ w.cell? ⟨g, 8, none⟩ = some (.string x.own) ∧ w.cell? ⟨g, 9, none⟩ = some x.sec.V := by
 have hb : Bk w g 33 x.C.toArray := h
 refine ⟨?_, ?_, ?_, ?_, ?_, ?_, ?_⟩ <;> (rw [hb.cell]; rfl)
theorem Ak.raw_at {w : World} {x : Ak} (h : AI w x) : (x.C.drop 21).take x.raw.C.length = x.raw.C := by
 unfold Ak.C
 have e : ([.int .i64 x.kind, .int .i64 x.i, .int .i64 x.member, .int .i64 x.turn, .int .i64 x.op, .int .i64 x.id, .int .i64 x.pin, .int .i64 x.lim, .string x.own, x.sec.V] ++ x.r.C ++ [x.b.V] : List Value).length = 21 := by
  simp only [List.length_append, List.length_cons, List.length_nil, Rt.len h.r.ok]
 rw [← e, List.drop_left, List.take_length]
section
variable {o : Oper} {a : Act} {w : World} {K : Act → World → Prop} {Q : Exit → Act → World → Prop}
theorem ld_araw (x : Operand) (g : Nat) (v : Ak) (ho : o.op = .load 31 x) (ha : a.eval x = .pointer (some ⟨g, 21, none⟩)) {w9 : World} (hv : AI w9 v) (h : AB w g v) (hk : K (a.put o.dst v.raw.V) w) : o.wp Try.prog a w K Q := by
 obtain ⟨dd, hd⟩ : ∃ d, Try.prog.underlying 31 = some d ∧ d.isRow = true := ⟨_, Try.underlying31, rfl⟩
 exact wp_ldp (C := v.C) v.raw.C x g 21 dd ho ha h (Ak.raw_at hv) hd.1 hd.2 (by rw [Try.sizeWt, Wt.len hv.raw.ok]) hk
theorem Wt.ones (x : Wt) : x.C.toArray.all (·.oneCell') = true := all_oneCell_toArray (by
 intro v hv
 unfold Wt.C at hv
 simp only [List.mem_append, List.mem_cons, List.not_mem_nil, or_false] at hv
 rcases hv with (rfl | hv) | rfl | rfl | rfl | rfl
 ·rfl
 ·exact byteCells_one hv
 all_goals rfl)
theorem st_w (x y : Operand) (g : Nat) (v : Wt) (ho : o.op = .store 31 x y) (ha : a.eval x = .pointer (some ⟨g, 0, none⟩)) (hy : a.eval y = v.V) (hv : v.Ok)
  {Y : Array Value} (hB : Bk w g 31 Y) (hY : Y.size = 9) (hk : ∀ w', WB w' g v → Only g w w' → K (a.put o.dst undef) w') : o.wp Try.prog a w K Q := by
 have hB' : Bk w g 31 Y.toList.toArray := by simpa using hB
 refine wp_stp v.C x y g 0 ho ha hy hB' (by rw [Wt.len hv]; simp [hY]) (by rw [Try.sizeWt, Wt.len hv]) v.ones (fun w' h1 h2 => hk w' ⟨hv, ?_⟩ h2)
 have e : Y.toList.take 0 ++ v.C ++ Y.toList.drop (0 + v.C.length) = v.C := by
  rw [List.take_zero, List.nil_append, List.drop_eq_nil_of_le (by rw [Wt.len hv]; simp [hY]), List.append_nil]
 rw [e] at h1; exact h1
theorem res_w {fn : Func} {a : Tmp} (h : fn.results = #[.cell a 31]) (tmps : Array Value) (w : World) (g : Nat) (ha : tmps.getD a undef = .pointer (some ⟨g, 0, none⟩)) (x : Wt) (hB : WB w g x) : (results fn tmps).run Try.prog w = .ok x.V w := by
 obtain ⟨dd, hd⟩ : ∃ d, Try.prog.underlying 31 = some d ∧ d.isRow = true := ⟨_, Try.underlying31, rfl⟩
 exact res_row1 h tmps w g ha hB.2 hd.1 hd.2 (by rw [Try.sizeWt, Wt.len hB.1])
end
theorem built_id9 (x : UInt8) : Try.prog.built 26 [(0, .int .u8 x.toNat), (1, .int .u8 7)] = some (Lib.byteCells [x, 7, 0, 0]).toArray := by kernel_rfl
theorem built_wish (op : Int) (id : List UInt8) (pin : ByteArray) (sec : Pt) (lim : Int) (own : ByteArray) (hi : id.length = 4) : Try.prog.built 31 [(0, .int .i64 op), (1, digV id), (2, .string pin), (3, sec.V), (4, .int .i64 lim), (5, .string own)] = some (Wt.mk op id pin sec lim own).C.toArray := by
 obtain ⟨a, b, c, d, rfl⟩ := len4 hi
 kernel_rfl
theorem kid9_any (c : Int) (hc : -9223372036854775808 ≤ c ∧ c ≤ 9223372036854775807) (w : World) : Calls Try.prog 20 #[.int .i64 c] w fun e w' => ∃ l : List UInt8, e = .returned (digV l) ∧ l.length = 4 ∧ Ex w w' := by
 have I0 : Hid (Bk (w.alloc (.cells #[.int .u8 0, .int .u8 0, .int .u8 0, .int .u8 0] 26)) w.heap.size 26 (Lib.byteCells z4).toArray) := Hi (Bk.new rfl _ _)
 have X0 : Hid (Ex w (w.alloc (.cells #[.int .u8 0, .int .u8 0, .int .u8 0, .int .u8 0] 26))) := Hi (Ex.alloc _ _)
 have HC := Hi hc
 clear hc
 go_enter Try.func20, Try.ntmps20
 go_wp2_with ((with_reducible refine so0 ?_ ?_); (focus rfl))
 change Calls _ _ _ (w.alloc (.cells #[.int .u8 0, .int .u8 0, .int .u8 0, .int .u8 0] 26)) _
 generalize (w.alloc (.cells #[.int .u8 0, .int .u8 0, .int .u8 0, .int .u8 0] 26)) = z0 at I0 X0 ⊢
 obtain ⟨g, hg⟩ : ∃ i, i = w.heap.size := ⟨_, rfl⟩
 have HG := Hi hg
 rw [← hg] at I0 ⊢
 clear hg
 refine (within_any c 0 255 HC.out (by decide) (by decide) (by decide) z0).mono ?_
 rintro e w2 ⟨m, rfl, m0, m1, rfl⟩
 go_wp2_with ((with_reducible refine so0 ?_ ?_); (focus rfl))
 refine at9 (by go_simp) fun K0 hK => wp_build _ _ rfl _ ((show Try.prog.built 26 [(0, .int .u8 m), (1, .int .u8 7)] = some (Lib.byteCells [Sm.by8 m, 7, 0, 0]).toArray from by rw [show m = ((Sm.by8 m).toNat : Int) by rw [Sm.by8_int]; omega]; rw [show Sm.by8 ((Sm.by8 m).toNat : Int) = Sm.by8 m by rw [Sm.by8_int]; unfold Sm.by8; rw [Int.emod_emod_of_dvd _ (by decide)]]; exact built_id9 (Sm.by8 m))) (hK _ _ ?_)
 clear hK
 go_wp2_with ((with_reducible refine so0 ?_ ?_); (focus rfl))
 refine at9 (by go_simp) fun K0 hK => st_idb _ _ g z4 [Sm.by8 m, 7, 0, 0] rfl rfl rfl rfl rfl I0.out (fun w3 hd ho => hK _ _ ?_)
 clear hK
 have XF := Hi (ho.below w.heap.size (by have := HG.out; omega) _ X0.out)
 have HD := Hi hd
 clear hd ho
 go_wp2_with fail
 exact bodyPost_ret (res_idb rfl _ _ g rfl [Sm.by8 m, 7, 0, 0] rfl HD.out) rfl ⟨[Sm.by8 m, 7, 0, 0], rfl, rfl, XF.out⟩
theorem kpin9_any (c : Int) (hc : -9223372036854775808 ≤ c ∧ c ≤ 9223372036854775807) (w : World) : Calls Try.prog 57 #[.int .i64 c] w fun e w' => ∃ s : ByteArray, e = .returned (.string s) ∧ s.size ≤ 100 ∧ Ex w w' := by
 have HC := Hi hc
 clear hc
 go_enter Try.func57, Try.ntmps57
 go_wp2_with fail
 refine (within_any c 0 1048576 HC.out (by decide) (by decide) (by decide) _).mono ?_
 rintro e w2 ⟨m, rfl, m0, m1, rfl⟩
 have hm : m % 5 = 0 ∨ m % 5 = 1 ∨ m % 5 = 2 ∨ m % 5 = 3 ∨ m % 5 = 4 := by omega
 rcases hm with hm | hm | hm | hm | hm
 all_goals go_wp2_with fail
 all_goals go_ret
 all_goals exact ⟨_, rfl, by decide, Ex.alloc _ _⟩
end Go.Proofs.Ytopamplmpfndlaa.Cl
