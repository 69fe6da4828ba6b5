/- known of chapter 15 -/
import Derived.Test.YtgoiidpcdifojaaEi
import Derived.Test.YtgoiidpcdifojaaEg
namespace Go.Proofs.Ytgoiidpcdifojaa
open Go.RowKit
open Sm (digV DB by8 sumL numL zero16 by8_int Cls cls_load_mid wp_region_cls byteCells_len)
def K9 : List UInt8 := [9, 0, 0, 0, 0, 0, 0, 0, 0, 0, 0, 0, 0, 0, 0, 0]
def M9 (m : Int) : List UInt8 := markL (keyL K9 m) 2 [0, 1, 2, 3]
theorem M9_len (m : Int) : (M9 m).length = 16 := rfl
theorem cnt9a (F : Int → List UInt8) : ([0, 1, 2] : List Int).countP (fun m => decide ((m, F m) ∈ [(0, F 0), (0, F 0)])) = 1 := by simp [List.countP_cons]
theorem cnt9b (F : Int → List UInt8) : ([0, 1, 2] : List Int).countP (fun m => decide ((m, F m) ∈ [(0, F 0), (1, F 1)])) = 2 := by simp [List.countP_cons]
theorem chk9 : rightB 1 [0, 1, 2] = true ∧ rightB 2 [0, 1, 2, 3] = true ∧ majI 1 [0, 1, 2] = 2 ∧ followsB 1 [0, 1, 2] 2 [0, 1, 2, 3] = true := by decide +kernel
theorem chkN9 : chkN K9 1 [0, 1, 2] 2 [0, 1, 2, 3] [(0, M9 0), (0, M9 0)] = 1 := by
  unfold chkN; rw [chk9.1, chk9.2.1]; exact cnt9a M9
theorem chkB9 : chkB K9 1 [0, 1, 2] 2 [0, 1, 2, 3] [(0, M9 0), (0, M9 0)] = false := by
  unfold chkB; rw [chk9.1, chk9.2.1, chk9.2.2.1, show cntN K9 2 [0, 1, 2, 3] [(0, M9 0), (0, M9 0)] [0, 1, 2] = 1 from cnt9a M9]; rfl
theorem chkB9b : chkB K9 1 [0, 1, 2] 2 [0, 1, 2, 3] [(0, M9 0), (1, M9 1)] = true := by
  unfold chkB; rw [chk9.1, chk9.2.1, chk9.2.2.1, show cntN K9 2 [0, 1, 2, 3] [(0, M9 0), (1, M9 1)] [0, 1, 2] = 2 from cnt9b M9]; rfl
theorem ad9 : adV K9 1 [0, 1, 2] 2 [0, 1, 2, 3] [(0, M9 0), (1, M9 1)] = 2 ∧ adL K9 1 [0, 1, 2] 2 [0, 1, 2, 3] [(0, M9 0), (1, M9 1)] = [0, 1, 2, 3] ∧ adE K9 1 [0, 1, 2] 2 [0, 1, 2, 3] [(0, M9 0), (1, M9 1)] = 0 := by
  unfold adV adL adE; rw [chk9.2.2.2, chkB9b]; exact ⟨rfl, rfl, rfl⟩
set_option maxRecDepth 100000 in
theorem wp_bs61b {o : Oper} {a : Act} {w : World} {K : Act → World → Prop} {Q : Exit → Act → World → Prop} (y z : Operand) (x u : Int × List UInt8) (hM : x.2.length = 16) (hU : u.2.length = 16) (ho : o.op = .buildSlice 61 2 #[(0, y), (1, z)]) (hy : a.eval y = voV x) (hz : a.eval z = voV u)
    (hk : K (a.put o.dst (.slice (some ⟨w.heap.size, 0, none⟩) 2 2)) (w.alloc (.cells (voC x ++ voC u).toArray 88))) : o.wp Try.prog a w K Q := by
  obtain ⟨m, M⟩ := x
  obtain ⟨x0, x1, x2, x3, x4, x5, x6, x7, x8, x9, x10, x11, x12, x13, x14, x15, rfl⟩ := Sm.len16 M hM
  obtain ⟨n, U⟩ := u
  obtain ⟨y0, y1, y2, y3, y4, y5, y6, y7, y8, y9, y10, y11, y12, y13, y14, y15, rfl⟩ := Sm.len16 U hU
  have hy : a.eval y = .agg #[.int .i64 m, .int .u8 x0.toNat, .int .u8 x1.toNat, .int .u8 x2.toNat, .int .u8 x3.toNat, .int .u8 x4.toNat, .int .u8 x5.toNat, .int .u8 x6.toNat, .int .u8 x7.toNat, .int .u8 x8.toNat, .int .u8 x9.toNat, .int .u8 x10.toNat, .int .u8 x11.toNat, .int .u8 x12.toNat, .int .u8 x13.toNat, .int .u8 x14.toNat, .int .u8 x15.toNat] := hy
  have hz : a.eval z = .agg #[.int .i64 n, .int .u8 y0.toNat, .int .u8 y1.toNat, .int .u8 y2.toNat, .int .u8 y3.toNat, .int .u8 y4.toNat, .int .u8 y5.toNat, .int .u8 y6.toNat, .int .u8 y7.toNat, .int .u8 y8.toNat, .int .u8 y9.toNat, .int .u8 y10.toNat, .int .u8 y11.toNat, .int .u8 y12.toNat, .int .u8 y13.toNat, .int .u8 y14.toNat, .int .u8 y15.toNat] := hz
  unfold Oper.wp
  obtain ⟨ev, hev⟩ : ∃ ev, ev = a.eval := ⟨_, rfl⟩
  rw [← hev] at hy hz ⊢
  clear hev
  unfold execOp
  simp only [ho]
  simp [hy, hz, go_sem]
  go_simp
  exact hk
theorem two_votes {w : World} {g : Nat} (x u : Int × List UInt8) (hx : x.2.length = 16) (hu : u.2.length = 16) (h : Bk w g 88 (voC x ++ voC u).toArray) : (Vp.mk (some ⟨g, 0, none⟩) 2 [x, u]).In w w.heap.size := by
  have hok : ∀ (i : Nat) (z : Int × List UInt8), [x, u][i]? = some z → z.2.length = 16 := fun i z hz => by
    match i, hz with
    | 0, hz => obtain rfl : x = z := by simpa using hz
               exact hx
    | 1, hz => obtain rfl : u = z := by simpa using hz
               exact hu
    | i + 2, hz => simp at hz
  refine ⟨Nat.le_refl _, (fun h => by cases h), hok, fun _ => ⟨g, 0, rfl, h.lt, fun i z hz j v hv => ?_⟩⟩
  have hj : j < 17 := by have := (List.getElem?_eq_some_iff.1 hv).1; rw [voC_len (hok i z hz)] at this; exact this
  have h3 := flat_at [x, u] hok i j z hz hj
  rw [show [x, u].flatMap voC = voC x ++ voC u by simp] at h3
  rw [h.cell, Nat.zero_add, List.getElem?_toArray, h3]
  exact hv
set_option maxHeartbeats 8000000 in
set_option maxRecDepth 100000 in
theorem known15_any (w : World) : Calls Try.prog 42 #[] w fun e w' => e = .returned (.bool true) ∧ Below w.heap.size w w' := by
  obtain ⟨p1, hpp⟩ : ∃ p : Pt, p = ⟨some ⟨w.heap.size, 0, none⟩, 3, [0, 1, 2]⟩ := ⟨_, rfl⟩
  have V1 := Lib.hid (show p1.V = .slice (some ⟨w.heap.size, 0, none⟩) 3 3 by rw [hpp]; rfl)
  have L1 := Lib.hid (show p1.l = [0, 1, 2] by rw [hpp])
  have P1 : Hid (p1.In (w.alloc (.cells #[.int .i64 0, .int .i64 1, .int .i64 2] 3)) (w.alloc (.cells #[.int .i64 0, .int .i64 1, .int .i64 2] 3)).heap.size) := Lib.hid (by rw [hpp]; exact bk_pt (t := 3) (l := [0, 1, 2]) (Bk.new rfl _ _))
  have BW := Lib.hid (show Ex w (w.alloc (.cells #[.int .i64 0, .int .i64 1, .int .i64 2] 3)) from (Below.refl _ _).alloc (Nat.le_refl _) _)
  clear hpp
  go_enter Try.func42, Try.ntmps42
  go_wp2_with (first | (with_reducible refine stop_build88 ?_) | (with_reducible refine stop_bs61 ?_) | (with_reducible refine Sm.stop_load59 ?_) | (with_reducible refine Sm.stop_store59 ?_) | (with_reducible refine stop_load45 ?_) | (with_reducible refine stop_store45 ?_))
  (with_reducible refine ⟨?_⟩); (with_reducible refine at_any ?_ ?_); (focus go_simp); refine fun K0 hK => wp_st45 _ _ (w.heap.size + 1) 1 0 p1 nilP rfl rfl (by unfold LV; rw [V1.out]; rfl) (Bk.new (by simp) _ _) (fun w2 hd ho => hK _ _ ?_)
  have A1 := Lib.hid hd
  have xs : Ex (w.alloc (.cells #[.int .i64 0, .int .i64 1, .int .i64 2] 3)) w2 := by
    have := ho.below (w.alloc (.cells #[.int .i64 0, .int .i64 1, .int .i64 2] 3)).heap.size (by simp) (w.alloc (.cells #[.int .i64 0, .int .i64 1, .int .i64 2] 3)) ((Below.refl _ _).alloc (Nat.le_refl _) _)
    exact this
  replace P1 := Lib.hid (Pt.In.ext P1.out xs)
  replace BW := Lib.hid (Ex.trans BW.out xs)
  obtain ⟨g1, hg1⟩ : ∃ g, g = w.heap.size + 1 := ⟨_, rfl⟩
  rw [← hg1] at A1 ⊢
  clear hK hd ho xs hg1
  obtain ⟨p2, hpp⟩ : ∃ p : Pt, p = ⟨some ⟨w2.heap.size, 0, none⟩, 4, [0, 1, 2, 3]⟩ := ⟨_, rfl⟩
  have V2 := Lib.hid (show p2.V = .slice (some ⟨w2.heap.size, 0, none⟩) 4 4 by rw [hpp]; rfl)
  have L2 := Lib.hid (show p2.l = [0, 1, 2, 3] by rw [hpp])
  have P2 : Hid (p2.In (w2.alloc (.cells #[.int .i64 0, .int .i64 1, .int .i64 2, .int .i64 3] 3)) (w2.alloc (.cells #[.int .i64 0, .int .i64 1, .int .i64 2, .int .i64 3] 3)).heap.size) := Lib.hid (by rw [hpp]; exact bk_pt (t := 3) (l := [0, 1, 2, 3]) (Bk.new rfl _ _))
  clear hpp
  go_wp2_with (first | (with_reducible refine stop_build88 ?_) | (with_reducible refine stop_bs61 ?_) | (with_reducible refine Sm.stop_load59 ?_) | (with_reducible refine Sm.stop_store59 ?_) | (with_reducible refine stop_load45 ?_) | (with_reducible refine stop_store45 ?_))
  (with_reducible refine ⟨?_⟩); (with_reducible refine at_any ?_ ?_); (focus go_simp); refine fun K0 hK => wp_st45 _ _ (w2.heap.size + 1) 2 0 p2 nilP rfl rfl (by unfold LV; rw [V2.out]; rfl) (Bk.new (by simp) _ _) (fun w4 hd ho => hK _ _ ?_)
  have A2 := Lib.hid hd
  have xs : Ex (w2.alloc (.cells #[.int .i64 0, .int .i64 1, .int .i64 2, .int .i64 3] 3)) w4 := by
    have := ho.below (w2.alloc (.cells #[.int .i64 0, .int .i64 1, .int .i64 2, .int .i64 3] 3)).heap.size (by simp) (w2.alloc (.cells #[.int .i64 0, .int .i64 1, .int .i64 2, .int .i64 3] 3)) ((Below.refl _ _).alloc (Nat.le_refl _) _)
    exact this
  have xt : Ex w2 w4 := Ex.trans (show Ex w2 (w2.alloc (.cells #[.int .i64 0, .int .i64 1, .int .i64 2, .int .i64 3] 3)) from (Below.refl _ _).alloc (Nat.le_refl _) _) xs
  replace P2 := Lib.hid (Pt.In.ext P2.out xs)
  replace A1 := Lib.hid (LB.ext A1.out xt)
  replace P1 := Lib.hid (Pt.In.ext P1.out xt)
  replace BW := Lib.hid (Ex.trans BW.out xt)
  obtain ⟨g2, hg2⟩ : ∃ g, g = w2.heap.size + 1 := ⟨_, rfl⟩
  rw [← hg2] at A2 ⊢
  clear hK hd ho xs xt hg2
  have MK := Lib.hid (fun (m : Int) (W : World) (h : p2.In W W.heap.size) => (show Calls Try.prog 56 #[digV (keyL K9 m), LV 2 p2] W fun e w' => e = .returned (.tuple #[digV (M9 m), .bool true]) ∧ Below W.heap.size W w' by
    have h := mark_go (keyL K9 m) (keyL_len K9 m) 2 (by decide) (by decide) p2 (by rw [L2.out]; decide) W h (by rw [L2.out]; exact chk9.2.1)
    rw [L2.out] at h; exact h))
  go_wp2_with (first | (with_reducible refine stop_build88 ?_) | (with_reducible refine stop_bs61 ?_) | (with_reducible refine Sm.stop_load59 ?_) | (with_reducible refine Sm.stop_store59 ?_) | (with_reducible refine stop_load45 ?_) | (with_reducible refine stop_store45 ?_))
  obtain ⟨T, hT⟩ : ∃ T : List (Option Value), T = [some (digV K9), some (digV (keyL K9 0)), some (LV 2 p2), some (.tuple #[digV (M9 0), .bool true]), some (.tuple #[digV (M9 0), .bool true]), some (digV (M9 0)), some (.bool true), none, none, some (.bool true)] := ⟨_, rfl⟩
  refine wp_region_gen (JL w4 T 7 8 59 zero16 (Lib.byteCells (M9 0)).toArray) (by kernel_rfl) (by kernel_rfl) (by kernel_rfl) (fitB_spec (by kernel_rfl)) (fun listed f h => JL.start _ listed f h) ?_ ?_
  · intro i o ho
    have hi : i < 10 := (Array.getElem?_eq_some_iff.1 ho).1
    have hi' : i = 0 ∨ i = 1 ∨ i = 2 ∨ i = 3 ∨ i = 4 ∨ i = 5 ∨ i = 6 ∨ i = 7 ∨ i = 8 ∨ i = 9 := by omega
    clear hi
    rcases hi' with rfl | rfl | rfl | rfl | rfl | rfl | rfl | rfl | rfl | rfl
    all_goals (simp only [List.getElem?_toArray, List.getElem?_cons_zero, List.getElem?_cons_succ, Option.some.injEq] at ho; subst ho; intro listed f a w9 hJ hsz hls hun hdep hout hlat)
    · rw [if_pos (by rfl)]
      intro K hK
      clear hsz hdep hout hlat
      go_simp
      exact hK _ _ (hJ.plain (by decide) (by decide) (Ex.refl _) (fun x hx => by rw [hT] at hx; have := Option.some.inj hx; rw [← this]; rfl))
    · rw [if_pos (by rfl)]
      intro K hK
      have q16 := (hdep ⟨0, .data⟩ (by simp) rfl).2 _ rfl _ rfl
      rw [show f 0 = _ from hJ.vals 0 (hdep ⟨0, .data⟩ (by simp) rfl).1 (digV K9) (by rw [hT]; rfl)] at q16
      rw [Array.getD_eq_getD_getElem?] at q16
      clear hsz hdep hout hlat
      go_simp
      refine (show Calls Try.prog 40 #[digV K9, .int .i64 0] w9 fun e w' => e = .returned (digV (keyL K9 0)) ∧ Below w9.heap.size w9 w' from Sm.key_any K9 rfl 0 w9).mono ?_
      rintro e w3 ⟨rfl, xq⟩
      exact hK _ _ (hJ.plain (by decide) (by decide) xq (fun x hx => by rw [hT] at hx; simpa using hx))
    · rw [if_pos (by rfl)]
      intro K hK
      have q2 := hout 2 (outB_spec (by kernel_rfl))
      refine wp_ld45 _ g2 2 p2 rfl q2 (LB.ext A2.out hJ.ext) (hK _ _ (hJ.plain (by decide) (by decide) (Ex.refl _) (fun x hx => by rw [hT] at hx; simpa using hx)))
    · rw [if_pos (by rfl)]
      intro K hK
      have q17 := (hdep ⟨1, .data⟩ (by simp) rfl).2 _ rfl _ rfl
      rw [show f 1 = _ from hJ.vals 1 (hdep ⟨1, .data⟩ (by simp) rfl).1 (digV (keyL K9 0)) (by rw [hT]; rfl)] at q17
      have q18 := (hdep ⟨2, .data⟩ (by simp) rfl).2 _ rfl _ rfl
      rw [show f 2 = _ from hJ.vals 2 (hdep ⟨2, .data⟩ (by simp) rfl).1 (LV 2 p2) (by rw [hT]; rfl)] at q18
      rw [Array.getD_eq_getD_getElem?] at q17
      rw [Array.getD_eq_getD_getElem?] at q18
      have cm := Lib.hid (MK.out 0 w9 (Pt.In.ext P2.out hJ.ext))
      unfold LV at cm q18
      clear hsz hdep hout hlat
      go_simp
      refine cm.out.mono ?_
      rintro e w3 ⟨rfl, xq⟩
      exact hK _ _ (hJ.plain (by decide) (by decide) xq (fun x hx => by rw [hT] at hx; simpa using hx))
    · rw [if_pos (by rfl)]
      intro K hK
      have q19 := (hdep ⟨3, .data⟩ (by simp) rfl).2 _ rfl _ rfl
      rw [show f 3 = _ from hJ.vals 3 (hdep ⟨3, .data⟩ (by simp) rfl).1 (.tuple #[digV (M9 0), .bool true]) (by rw [hT]; rfl)] at q19
      refine wp_mv _ rfl (hK _ _ ?_)
      rw [show a.eval (.tmp 19) = .tuple #[digV (M9 0), .bool true] from q19]
      exact hJ.plain (by decide) (by decide) (Ex.refl _) (fun x hx => by rw [hT] at hx; simpa using hx)
    · rw [if_pos (by rfl)]
      intro K hK
      have q15 := (hdep ⟨4, .data⟩ (by simp) rfl).2 _ rfl _ rfl
      rw [show f 4 = _ from hJ.vals 4 (hdep ⟨4, .data⟩ (by simp) rfl).1 (.tuple #[digV (M9 0), .bool true]) (by rw [hT]; rfl)] at q15
      rw [Array.getD_eq_getD_getElem?] at q15
      clear hsz hdep hout hlat
      go_simp
      exact hK _ _ (hJ.plain (by decide) (by decide) (Ex.refl _) (fun x hx => by rw [hT] at hx; simpa using hx))
    · rw [if_pos (by rfl)]
      intro K hK
      have q15 := (hdep ⟨4, .data⟩ (by simp) rfl).2 _ rfl _ rfl
      rw [show f 4 = _ from hJ.vals 4 (hdep ⟨4, .data⟩ (by simp) rfl).1 (.tuple #[digV (M9 0), .bool true]) (by rw [hT]; rfl)] at q15
      rw [Array.getD_eq_getD_getElem?] at q15
      clear hsz hdep hout hlat
      go_simp
      exact hK _ _ (hJ.plain (by decide) (by decide) (Ex.refl _) (fun x hx => by rw [hT] at hx; simpa using hx))
    · rw [if_pos (by rfl)]
      intro K hK
      clear hsz hdep hout hlat
      go_simp
      exact hK _ _ (hJ.alloc (by decide) hun (by rw [hT]; rfl))
    · rw [if_pos (by rfl)]
      intro K hK
      have q3 := (hdep ⟨7, .data⟩ (by simp) rfl).2 _ rfl _ rfl
      have q20 := (hdep ⟨5, .data⟩ (by simp) rfl).2 _ rfl _ rfl
      rw [show f 5 = _ from hJ.vals 5 (hdep ⟨5, .data⟩ (by simp) rfl).1 (digV (M9 0)) (by rw [hT]; rfl)] at q20
      obtain ⟨g, hg, hgb, hB⟩ := hJ.loc (hdep ⟨7, .data⟩ (by simp) rfl).1
      rw [hg] at q3
      have l9 : listed.getD 8 false = false := hun
      rw [l9, if_neg (by decide)] at hB
      refine Sm.wp_st _ _ g _ rfl q3 q20 (M9_len _) hB rfl (fun w' hd ho => hK _ _ ?_)
      exact hJ.store (by decide) (hdep ⟨7, .data⟩ (by simp) rfl).1 (by rw [hls]; decide) (by rw [hT]; rfl) hg hgb hd.2 ⟨ho.below, ho.other, ho.size⟩
    · rw [if_pos (by rfl)]
      intro K hK
      have q21 := (hdep ⟨6, .data⟩ (by simp) rfl).2 _ rfl _ rfl
      rw [show f 6 = _ from hJ.vals 6 (hdep ⟨6, .data⟩ (by simp) rfl).1 (.bool true) (by rw [hT]; rfl)] at q21
      rw [Array.getD_eq_getD_getElem?] at q21
      clear hsz hdep hout hlat
      go_simp
      exact hK _ _ (hJ.plain (by decide) (by decide) (Ex.refl _) (fun x hx => by rw [hT] at hx; simpa using hx))
  · intro listed f w9 hall hJ
    have f0 : f 0 = digV K9 := hJ.vals 0 (hall 0 (by simp)) _ (by rw [hT]; rfl)
    have f1 : f 1 = digV (keyL K9 0) := hJ.vals 1 (hall 1 (by simp)) _ (by rw [hT]; rfl)
    have f2 : f 2 = LV 2 p2 := hJ.vals 2 (hall 2 (by simp)) _ (by rw [hT]; rfl)
    have f3 : f 3 = .tuple #[digV (M9 0), .bool true] := hJ.vals 3 (hall 3 (by simp)) _ (by rw [hT]; rfl)
    have f4 : f 4 = .tuple #[digV (M9 0), .bool true] := hJ.vals 4 (hall 4 (by simp)) _ (by rw [hT]; rfl)
    have f5 : f 5 = digV (M9 0) := hJ.vals 5 (hall 5 (by simp)) _ (by rw [hT]; rfl)
    have f6 : f 6 = .bool true := hJ.vals 6 (hall 6 (by simp)) _ (by rw [hT]; rfl)
    have f9 : f 9 = .bool true := hJ.vals 9 (hall 9 (by simp)) _ (by rw [hT]; rfl)
    obtain ⟨g3, f7, gb, bg⟩ := hJ.loc (hall 7 (by simp))
    rw [if_pos (hall 8 (by simp))] at bg
    have xw := hJ.ext
    simp only [putAll, Act.put, List.setIfInBounds_toArray, List.set_cons_zero, List.set_cons_succ, Nat.zero_add, Nat.reduceAdd]
    rw [f0, f1, f2, f3, f4, f5, f6, f7, f9]
    clear f0 f1 f2 f3 f4 f5 f6 f7 f9 hJ hall hT
    have G3 : Hid (DB w9 g3 (M9 0)) := Lib.hid ⟨M9_len _, bg⟩
    replace A1 := Lib.hid (LB.ext A1.out xw)
    replace P1 := Lib.hid (Pt.In.ext P1.out xw)
    replace A2 := Lib.hid (LB.ext A2.out xw)
    replace P2 := Lib.hid (Pt.In.ext P2.out xw)
    replace BW := Lib.hid (Ex.trans BW.out xw)
    clear xw gb bg
    go_wp2_with (first | (with_reducible refine stop_build88 ?_) | (with_reducible refine stop_bs61 ?_) | (with_reducible refine Sm.stop_load59 ?_) | (with_reducible refine Sm.stop_store59 ?_) | (with_reducible refine stop_load45 ?_) | (with_reducible refine stop_store45 ?_))
    obtain ⟨T, hT⟩ : ∃ T : List (Option Value), T = [some (digV K9), some (digV (keyL K9 1)), some (LV 2 p2), some (.tuple #[digV (M9 1), .bool true]), some (.tuple #[digV (M9 1), .bool true]), some (digV (M9 1)), some (.bool true), none, none, some (.bool true)] := ⟨_, rfl⟩
    refine wp_region_gen (JL w9 T 7 8 59 zero16 (Lib.byteCells (M9 1)).toArray) (by kernel_rfl) (by kernel_rfl) (by kernel_rfl) (fitB_spec (by kernel_rfl)) (fun listed f h => JL.start _ listed f h) ?_ ?_
    · intro i o ho
      have hi : i < 10 := (Array.getElem?_eq_some_iff.1 ho).1
      have hi' : i = 0 ∨ i = 1 ∨ i = 2 ∨ i = 3 ∨ i = 4 ∨ i = 5 ∨ i = 6 ∨ i = 7 ∨ i = 8 ∨ i = 9 := by omega
      clear hi
      rcases hi' with rfl | rfl | rfl | rfl | rfl | rfl | rfl | rfl | rfl | rfl
      all_goals (simp only [List.getElem?_toArray, List.getElem?_cons_zero, List.getElem?_cons_succ, Option.some.injEq] at ho; subst ho; intro listed f a w10 hJ hsz hls hun hdep hout hlat)
      · rw [if_pos (by rfl)]
        intro K hK
        clear hsz hdep hout hlat
        go_simp
        exact hK _ _ (hJ.plain (by decide) (by decide) (Ex.refl _) (fun x hx => by rw [hT] at hx; have := Option.some.inj hx; rw [← this]; rfl))
      · rw [if_pos (by rfl)]
        intro K hK
        have q23 := (hdep ⟨0, .data⟩ (by simp) rfl).2 _ rfl _ rfl
        rw [show f 0 = _ from hJ.vals 0 (hdep ⟨0, .data⟩ (by simp) rfl).1 (digV K9) (by rw [hT]; rfl)] at q23
        rw [Array.getD_eq_getD_getElem?] at q23
        clear hsz hdep hout hlat
        go_simp
        refine (show Calls Try.prog 40 #[digV K9, .int .i64 1] w10 fun e w' => e = .returned (digV (keyL K9 1)) ∧ Below w10.heap.size w10 w' from Sm.key_any K9 rfl 1 w10).mono ?_
        rintro e w3 ⟨rfl, xq⟩
        exact hK _ _ (hJ.plain (by decide) (by decide) xq (fun x hx => by rw [hT] at hx; simpa using hx))
      · rw [if_pos (by rfl)]
        intro K hK
        have q2 := hout 2 (outB_spec (by kernel_rfl))
        refine wp_ld45 _ g2 2 p2 rfl q2 (LB.ext A2.out hJ.ext) (hK _ _ (hJ.plain (by decide) (by decide) (Ex.refl _) (fun x hx => by rw [hT] at hx; simpa using hx)))
      · rw [if_pos (by rfl)]
        intro K hK
        have q24 := (hdep ⟨1, .data⟩ (by simp) rfl).2 _ rfl _ rfl
        rw [show f 1 = _ from hJ.vals 1 (hdep ⟨1, .data⟩ (by simp) rfl).1 (digV (keyL K9 1)) (by rw [hT]; rfl)] at q24
        have q25 := (hdep ⟨2, .data⟩ (by simp) rfl).2 _ rfl _ rfl
        rw [show f 2 = _ from hJ.vals 2 (hdep ⟨2, .data⟩ (by simp) rfl).1 (LV 2 p2) (by rw [hT]; rfl)] at q25
        rw [Array.getD_eq_getD_getElem?] at q24
        rw [Array.getD_eq_getD_getElem?] at q25
        have cm := Lib.hid (MK.out 1 w10 (Pt.In.ext P2.out hJ.ext))
        unfold LV at cm q25
        clear hsz hdep hout hlat
        go_simp
        refine cm.out.mono ?_
        rintro e w3 ⟨rfl, xq⟩
        exact hK _ _ (hJ.plain (by decide) (by decide) xq (fun x hx => by rw [hT] at hx; simpa using hx))
      · rw [if_pos (by rfl)]
        intro K hK
        have q26 := (hdep ⟨3, .data⟩ (by simp) rfl).2 _ rfl _ rfl
        rw [show f 3 = _ from hJ.vals 3 (hdep ⟨3, .data⟩ (by simp) rfl).1 (.tuple #[digV (M9 1), .bool true]) (by rw [hT]; rfl)] at q26
        refine wp_mv _ rfl (hK _ _ ?_)
        rw [show a.eval (.tmp 26) = .tuple #[digV (M9 1), .bool true] from q26]
        exact hJ.plain (by decide) (by decide) (Ex.refl _) (fun x hx => by rw [hT] at hx; simpa using hx)
      · rw [if_pos (by rfl)]
        intro K hK
        have q22 := (hdep ⟨4, .data⟩ (by simp) rfl).2 _ rfl _ rfl
        rw [show f 4 = _ from hJ.vals 4 (hdep ⟨4, .data⟩ (by simp) rfl).1 (.tuple #[digV (M9 1), .bool true]) (by rw [hT]; rfl)] at q22
        rw [Array.getD_eq_getD_getElem?] at q22
        clear hsz hdep hout hlat
        go_simp
        exact hK _ _ (hJ.plain (by decide) (by decide) (Ex.refl _) (fun x hx => by rw [hT] at hx; simpa using hx))
      · rw [if_pos (by rfl)]
        intro K hK
        have q22 := (hdep ⟨4, .data⟩ (by simp) rfl).2 _ rfl _ rfl
        rw [show f 4 = _ from hJ.vals 4 (hdep ⟨4, .data⟩ (by simp) rfl).1 (.tuple #[digV (M9 1), .bool true]) (by rw [hT]; rfl)] at q22
        rw [Array.getD_eq_getD_getElem?] at q22
        clear hsz hdep hout hlat
        go_simp
        exact hK _ _ (hJ.plain (by decide) (by decide) (Ex.refl _) (fun x hx => by rw [hT] at hx; simpa using hx))
      · rw [if_pos (by rfl)]
        intro K hK
        clear hsz hdep hout hlat
        go_simp
        exact hK _ _ (hJ.alloc (by decide) hun (by rw [hT]; rfl))
      · rw [if_pos (by rfl)]
        intro K hK
        have q5 := (hdep ⟨7, .data⟩ (by simp) rfl).2 _ rfl _ rfl
        have q27 := (hdep ⟨5, .data⟩ (by simp) rfl).2 _ rfl _ rfl
        rw [show f 5 = _ from hJ.vals 5 (hdep ⟨5, .data⟩ (by simp) rfl).1 (digV (M9 1)) (by rw [hT]; rfl)] at q27
        obtain ⟨g, hg, hgb, hB⟩ := hJ.loc (hdep ⟨7, .data⟩ (by simp) rfl).1
        rw [hg] at q5
        have l9 : listed.getD 8 false = false := hun
        rw [l9, if_neg (by decide)] at hB
        refine Sm.wp_st _ _ g _ rfl q5 q27 (M9_len _) hB rfl (fun w' hd ho => hK _ _ ?_)
        exact hJ.store (by decide) (hdep ⟨7, .data⟩ (by simp) rfl).1 (by rw [hls]; decide) (by rw [hT]; rfl) hg hgb hd.2 ⟨ho.below, ho.other, ho.size⟩
      · rw [if_pos (by rfl)]
        intro K hK
        have q28 := (hdep ⟨6, .data⟩ (by simp) rfl).2 _ rfl _ rfl
        rw [show f 6 = _ from hJ.vals 6 (hdep ⟨6, .data⟩ (by simp) rfl).1 (.bool true) (by rw [hT]; rfl)] at q28
        rw [Array.getD_eq_getD_getElem?] at q28
        clear hsz hdep hout hlat
        go_simp
        exact hK _ _ (hJ.plain (by decide) (by decide) (Ex.refl _) (fun x hx => by rw [hT] at hx; simpa using hx))
    · intro listed f w10 hall hJ
      have f0 : f 0 = digV K9 := hJ.vals 0 (hall 0 (by simp)) _ (by rw [hT]; rfl)
      have f1 : f 1 = digV (keyL K9 1) := hJ.vals 1 (hall 1 (by simp)) _ (by rw [hT]; rfl)
      have f2 : f 2 = LV 2 p2 := hJ.vals 2 (hall 2 (by simp)) _ (by rw [hT]; rfl)
      have f3 : f 3 = .tuple #[digV (M9 1), .bool true] := hJ.vals 3 (hall 3 (by simp)) _ (by rw [hT]; rfl)
      have f4 : f 4 = .tuple #[digV (M9 1), .bool true] := hJ.vals 4 (hall 4 (by simp)) _ (by rw [hT]; rfl)
      have f5 : f 5 = digV (M9 1) := hJ.vals 5 (hall 5 (by simp)) _ (by rw [hT]; rfl)
      have f6 : f 6 = .bool true := hJ.vals 6 (hall 6 (by simp)) _ (by rw [hT]; rfl)
      have f9 : f 9 = .bool true := hJ.vals 9 (hall 9 (by simp)) _ (by rw [hT]; rfl)
      obtain ⟨g5, f7, gb, bg⟩ := hJ.loc (hall 7 (by simp))
      rw [if_pos (hall 8 (by simp))] at bg
      have xw := hJ.ext
      simp only [putAll, Act.put, List.setIfInBounds_toArray, List.set_cons_zero, List.set_cons_succ, Nat.zero_add, Nat.reduceAdd]
      rw [f0, f1, f2, f3, f4, f5, f6, f7, f9]
      clear f0 f1 f2 f3 f4 f5 f6 f7 f9 hJ hall hT
      have G5 : Hid (DB w10 g5 (M9 1)) := Lib.hid ⟨M9_len _, bg⟩
      replace A1 := Lib.hid (LB.ext A1.out xw)
      replace P1 := Lib.hid (Pt.In.ext P1.out xw)
      replace A2 := Lib.hid (LB.ext A2.out xw)
      replace P2 := Lib.hid (Pt.In.ext P2.out xw)
      replace BW := Lib.hid (Ex.trans BW.out xw)
      replace G3 := Lib.hid (DB.ext G3.out xw)
      clear xw gb bg MK
      go_wp2_with (first | (with_reducible refine stop_build88 ?_) | (with_reducible refine stop_bs61 ?_) | (with_reducible refine Sm.stop_load59 ?_) | (with_reducible refine Sm.stop_store59 ?_) | (with_reducible refine stop_load45 ?_) | (with_reducible refine stop_store45 ?_))
      (with_reducible refine ⟨?_⟩); (with_reducible refine at_any ?_ ?_); (focus go_simp); refine fun K0 hK => wp_ld45 _ g1 1 p1 rfl rfl A1.out (hK _ _ ?_)
      clear hK
      go_wp2_with (first | (with_reducible refine stop_build88 ?_) | (with_reducible refine stop_bs61 ?_) | (with_reducible refine Sm.stop_load59 ?_) | (with_reducible refine Sm.stop_store59 ?_) | (with_reducible refine stop_load45 ?_) | (with_reducible refine stop_store45 ?_))
      (with_reducible refine ⟨?_⟩); (with_reducible refine at_any ?_ ?_); (focus go_simp); refine fun K0 hK => wp_ld45 _ g2 2 p2 rfl rfl A2.out (hK _ _ ?_)
      clear hK
      go_wp2_with (first | (with_reducible refine stop_build88 ?_) | (with_reducible refine stop_bs61 ?_) | (with_reducible refine Sm.stop_load59 ?_) | (with_reducible refine Sm.stop_store59 ?_) | (with_reducible refine stop_load45 ?_) | (with_reducible refine stop_store45 ?_))
      (with_reducible refine ⟨?_⟩); (with_reducible refine at_any ?_ ?_); (focus go_simp); refine fun K0 hK => Sm.wp_ld _ g3 (M9 0) rfl rfl G3.out (hK _ _ ?_)
      clear hK
      go_wp2_with (first | (with_reducible refine stop_build88 ?_) | (with_reducible refine stop_bs61 ?_) | (with_reducible refine Sm.stop_load59 ?_) | (with_reducible refine Sm.stop_store59 ?_) | (with_reducible refine stop_load45 ?_) | (with_reducible refine stop_store45 ?_))
      (with_reducible refine ⟨?_⟩); (with_reducible refine at_any ?_ ?_); (focus go_simp); refine fun K0 hK => wp_build88 _ _ 0 (M9 0) (M9_len _) rfl rfl rfl (hK _ _ ?_)
      clear hK
      go_wp2_with (first | (with_reducible refine stop_build88 ?_) | (with_reducible refine stop_bs61 ?_) | (with_reducible refine Sm.stop_load59 ?_) | (with_reducible refine Sm.stop_store59 ?_) | (with_reducible refine stop_load45 ?_) | (with_reducible refine stop_store45 ?_))
      (with_reducible refine ⟨?_⟩); (with_reducible refine at_any ?_ ?_); (focus go_simp); refine fun K0 hK => Sm.wp_ld _ g3 (M9 0) rfl rfl G3.out (hK _ _ ?_)
      clear hK
      go_wp2_with (first | (with_reducible refine stop_build88 ?_) | (with_reducible refine stop_bs61 ?_) | (with_reducible refine Sm.stop_load59 ?_) | (with_reducible refine Sm.stop_store59 ?_) | (with_reducible refine stop_load45 ?_) | (with_reducible refine stop_store45 ?_))
      (with_reducible refine ⟨?_⟩); (with_reducible refine at_any ?_ ?_); (focus go_simp); refine fun K0 hK => wp_build88 _ _ 0 (M9 0) (M9_len _) rfl rfl rfl (hK _ _ ?_)
      clear hK
      go_wp2_with (first | (with_reducible refine stop_build88 ?_) | (with_reducible refine stop_bs61 ?_) | (with_reducible refine Sm.stop_load59 ?_) | (with_reducible refine Sm.stop_store59 ?_) | (with_reducible refine stop_load45 ?_) | (with_reducible refine stop_store45 ?_))
      (with_reducible refine ⟨?_⟩); (with_reducible refine at_any ?_ ?_); (focus go_simp); refine fun K0 hK => wp_bs61b _ _ (0, M9 0) (0, M9 0) (M9_len _) (M9_len _) rfl rfl rfl (hK _ _ ?_)
      clear hK
      have xa : Ex w10 (w10.alloc (.cells (voC (0, M9 0) ++ voC (0, M9 0)).toArray 88)) := (Below.refl _ _).alloc (Nat.le_refl _) _
      have VP := Lib.hid (two_votes (0, M9 0) (0, M9 0) (M9_len _) (M9_len _) (Bk.new (w := w10) rfl 88 (voC (0, M9 0) ++ voC (0, M9 0)).toArray))
      replace A1 := Lib.hid (LB.ext A1.out xa)
      replace P1 := Lib.hid (Pt.In.ext P1.out xa)
      replace A2 := Lib.hid (LB.ext A2.out xa)
      replace P2 := Lib.hid (Pt.In.ext P2.out xa)
      replace BW := Lib.hid (Ex.trans BW.out xa)
      replace G3 := Lib.hid (DB.ext G3.out xa)
      replace G5 := Lib.hid (DB.ext G5.out xa)
      generalize (w10.alloc (.cells (voC (0, M9 0) ++ voC (0, M9 0)).toArray 88)) = W5 at *
      clear xa
      have CH := Lib.hid (check_any K9 rfl 1 2 (by decide) (by decide) p1 p2 _ W5 P1.out P2.out VP.out (by simp))
      rw [L1.out, L2.out, chkN9, chkB9] at CH
      clear VP
      go_wp2_with (first | (with_reducible refine stop_build88 ?_) | (with_reducible refine stop_bs61 ?_) | (with_reducible refine Sm.stop_load59 ?_) | (with_reducible refine Sm.stop_store59 ?_) | (with_reducible refine stop_load45 ?_) | (with_reducible refine stop_store45 ?_))
      refine CH.out.mono ?_
      rintro e w12 ⟨rfl, xr⟩
      replace A1 := Lib.hid (LB.ext A1.out xr)
      replace P1 := Lib.hid (Pt.In.ext P1.out xr)
      replace A2 := Lib.hid (LB.ext A2.out xr)
      replace P2 := Lib.hid (Pt.In.ext P2.out xr)
      replace BW := Lib.hid (Ex.trans BW.out xr)
      replace G3 := Lib.hid (DB.ext G3.out xr)
      replace G5 := Lib.hid (DB.ext G5.out xr)
      clear CH xr W5
      go_wp2_with (first | (with_reducible refine stop_build88 ?_) | (with_reducible refine stop_bs61 ?_) | (with_reducible refine Sm.stop_load59 ?_) | (with_reducible refine Sm.stop_store59 ?_) | (with_reducible refine stop_load45 ?_) | (with_reducible refine stop_store45 ?_))
      (with_reducible refine ⟨?_⟩); (with_reducible refine at_any ?_ ?_); (focus go_simp); refine fun K0 hK => wp_ld45 _ g1 1 p1 rfl rfl A1.out (hK _ _ ?_)
      clear hK
      go_wp2_with (first | (with_reducible refine stop_build88 ?_) | (with_reducible refine stop_bs61 ?_) | (with_reducible refine Sm.stop_load59 ?_) | (with_reducible refine Sm.stop_store59 ?_) | (with_reducible refine stop_load45 ?_) | (with_reducible refine stop_store45 ?_))
      (with_reducible refine ⟨?_⟩); (with_reducible refine at_any ?_ ?_); (focus go_simp); refine fun K0 hK => wp_ld45 _ g2 2 p2 rfl rfl A2.out (hK _ _ ?_)
      clear hK
      go_wp2_with (first | (with_reducible refine stop_build88 ?_) | (with_reducible refine stop_bs61 ?_) | (with_reducible refine Sm.stop_load59 ?_) | (with_reducible refine Sm.stop_store59 ?_) | (with_reducible refine stop_load45 ?_) | (with_reducible refine stop_store45 ?_))
      (with_reducible refine ⟨?_⟩); (with_reducible refine at_any ?_ ?_); (focus go_simp); refine fun K0 hK => Sm.wp_ld _ g3 (M9 0) rfl rfl G3.out (hK _ _ ?_)
      clear hK
      go_wp2_with (first | (with_reducible refine stop_build88 ?_) | (with_reducible refine stop_bs61 ?_) | (with_reducible refine Sm.stop_load59 ?_) | (with_reducible refine Sm.stop_store59 ?_) | (with_reducible refine stop_load45 ?_) | (with_reducible refine stop_store45 ?_))
      (with_reducible refine ⟨?_⟩); (with_reducible refine at_any ?_ ?_); (focus go_simp); refine fun K0 hK => wp_build88 _ _ 0 (M9 0) (M9_len _) rfl rfl rfl (hK _ _ ?_)
      clear hK
      go_wp2_with (first | (with_reducible refine stop_build88 ?_) | (with_reducible refine stop_bs61 ?_) | (with_reducible refine Sm.stop_load59 ?_) | (with_reducible refine Sm.stop_store59 ?_) | (with_reducible refine stop_load45 ?_) | (with_reducible refine stop_store45 ?_))
      (with_reducible refine ⟨?_⟩); (with_reducible refine at_any ?_ ?_); (focus go_simp); refine fun K0 hK => Sm.wp_ld _ g5 (M9 1) rfl rfl G5.out (hK _ _ ?_)
      clear hK
      go_wp2_with (first | (with_reducible refine stop_build88 ?_) | (with_reducible refine stop_bs61 ?_) | (with_reducible refine Sm.stop_load59 ?_) | (with_reducible refine Sm.stop_store59 ?_) | (with_reducible refine stop_load45 ?_) | (with_reducible refine stop_store45 ?_))
      (with_reducible refine ⟨?_⟩); (with_reducible refine at_any ?_ ?_); (focus go_simp); refine fun K0 hK => wp_build88 _ _ 1 (M9 1) (M9_len _) rfl rfl rfl (hK _ _ ?_)
      clear hK
      go_wp2_with (first | (with_reducible refine stop_build88 ?_) | (with_reducible refine stop_bs61 ?_) | (with_reducible refine Sm.stop_load59 ?_) | (with_reducible refine Sm.stop_store59 ?_) | (with_reducible refine stop_load45 ?_) | (with_reducible refine stop_store45 ?_))
      (with_reducible refine ⟨?_⟩); (with_reducible refine at_any ?_ ?_); (focus go_simp); refine fun K0 hK => wp_bs61b _ _ (0, M9 0) (1, M9 1) (M9_len _) (M9_len _) rfl rfl rfl (hK _ _ ?_)
      clear hK
      have xa : Ex w12 (w12.alloc (.cells (voC (0, M9 0) ++ voC (1, M9 1)).toArray 88)) := (Below.refl _ _).alloc (Nat.le_refl _) _
      have VP := Lib.hid (two_votes (0, M9 0) (1, M9 1) (M9_len _) (M9_len _) (Bk.new (w := w12) rfl 88 (voC (0, M9 0) ++ voC (1, M9 1)).toArray))
      replace A1 := Lib.hid (LB.ext A1.out xa)
      replace P1 := Lib.hid (Pt.In.ext P1.out xa)
      replace A2 := Lib.hid (LB.ext A2.out xa)
      replace P2 := Lib.hid (Pt.In.ext P2.out xa)
      replace BW := Lib.hid (Ex.trans BW.out xa)
      replace G3 := Lib.hid (DB.ext G3.out xa)
      replace G5 := Lib.hid (DB.ext G5.out xa)
      generalize (w12.alloc (.cells (voC (0, M9 0) ++ voC (1, M9 1)).toArray 88)) = W5 at *
      clear xa
      have CH := Lib.hid (adopt_any K9 rfl 1 2 (by decide) (by decide) p1 p2 _ W5 P1.out P2.out VP.out (by simp) (by rw [L2.out]; decide))
      rw [L1.out, L2.out, ad9.1, ad9.2.1, ad9.2.2] at CH
      clear VP
      go_wp2_with (first | (with_reducible refine stop_build88 ?_) | (with_reducible refine stop_bs61 ?_) | (with_reducible refine Sm.stop_load59 ?_) | (with_reducible refine Sm.stop_store59 ?_) | (with_reducible refine stop_load45 ?_) | (with_reducible refine stop_store45 ?_))
      refine CH.out.mono ?_
      rintro e w14 ⟨px, rfl, hxl, hxin, xr⟩
      replace BW := Lib.hid (Ex.trans BW.out xr)
      have HXL := Lib.hid hxl
      clear CH xr hxl A1 P1 A2 P2 G3 G5
      go_wp2_with (first | (with_reducible refine stop_build88 ?_) | (with_reducible refine stop_bs61 ?_) | (with_reducible refine Sm.stop_load59 ?_) | (with_reducible refine Sm.stop_store59 ?_) | (with_reducible refine stop_load45 ?_) | (with_reducible refine stop_store45 ?_))
      (with_reducible refine ⟨?_⟩); (with_reducible refine at_any ?_ ?_); (focus go_simp); refine fun K0 hK => wp_st45 _ _ w14.heap.size 2 0 px nilP rfl rfl rfl (Bk.new rfl _ _) (fun w15 hd ho => hK _ _ ?_)
      replace BW := Lib.hid (Ex.trans BW.out (ho.ex))
      obtain ⟨g9, hg9⟩ : ∃ g, g = w14.heap.size := ⟨_, rfl⟩
      rw [← hg9] at hd ⊢
      have c0 : w15.cell? ⟨g9, 0, none⟩ = some (.int .u64 2) := Bk.cell hd 0
      have c1 : w15.cell? ⟨g9, 1, none⟩ = some px.V := Bk.cell hd 1
      unfold Pt.V at c1
      rw [HXL.out] at c1
      have c1 : w15.cell? ⟨g9, 1, none⟩ = some (.slice px.ad 4 px.cap) := c1
      clear hK ho hd hg9 hxin
      go_wp2_with (first | (with_reducible refine stop_build88 ?_) | (with_reducible refine stop_bs61 ?_) | (with_reducible refine Sm.stop_load59 ?_) | (with_reducible refine Sm.stop_store59 ?_) | (with_reducible refine stop_load45 ?_) | (with_reducible refine stop_store45 ?_))
      go_ret
      exact ⟨rfl, BW.out⟩
end Go.Proofs.Ytgoiidpcdifojaa
