/- same of chapter 14's statements, one way of it -/
import Derived.Test.YtgoiidpcdifojaaRoR
namespace Go.Proofs.Ytgoiidpcdifojaa
open Go.RowKit
set_option maxHeartbeats 8000000 in
set_option maxRecDepth 100000 in
theorem same_new (v : Int) (b k : Nat) (p : Pt) (w : World) (hp : p.In w w.heap.size) (hL : p.l.length ≤ 9223372036854775807) (xl yl : List Int) (hr : rightB v p.l = true) (fit : Fit v p.l (k : Int) false (v + 1) xl (0) yl) (hxl : xl.length ≤ 8) (hyl : yl.length ≤ 8) (hy0 : yl = []) (hb : b < 256) (hk : k < 8) (hml : p.l = mem8 b 8) (hbt : b / 2 ^ k % 2 = 0) (hv : v < 1099511627776) (hxm : xl = mem8 (b ||| 2 ^ k) 8) :
    Calls Try.prog 24 #[LV v p, .int .i64 (k : Int)] w fun e w' => e = .returned (.bool true) ∧ Below w.heap.size w w' := by
  have C48 := Lib.hid (fun W (h : Ex w W) => (show Calls Try.prog 48 #[LV v p] W fun e w' => e = .returned (.bool true) ∧ Below W.heap.size W w' by rw [← hr]; exact rright_any v p W (hp.ext h)))
  have C49 := Lib.hid (fun W (h : Ex w W) => (show Calls Try.prog 49 #[LV v p] W fun e w' => e = .returned (.bool true) ∧ Below W.heap.size W w' by rw [← hr]; exact right_any v p W (hp.ext h)))
  have YNIL := Lib.hid hy0
  clear hy0
  have CSET := Lib.hid (fun W (h : Ex w W) => (show Calls Try.prog 32 #[LV v p] W fun e w' => e = .returned (.int .i64 (b : Int)) ∧ Below W.heap.size W w' by
    have := set_any v p W (hp.ext h) (right_len hr).2.2.2.2 (right_len hr).2.2.2.1; rw [hml, (chs_is hb).1] at this; exact this))
  have HKK := Lib.hid hk
  have HBB := Lib.hid hb
  have hv1 := (right_len hr).1
  have hv2 := (right_len hr).2.1
  clear hml
  have HBT := Lib.hid hbt
  clear hbt
  have VW := Lib.hid (show IntKind.u64.wrap (v + 1) = v + 1 by unfold IntKind.wrap; simp [IntKind.signed, IntKind.bits]; omega)
  have KU := Lib.hid (show (0 : Int) ≤ (k : Int) by omega)
  have KW := Lib.hid (show IntKind.u64.wrap (k : Int) = (k : Int) by unfold IntKind.wrap; simp [IntKind.signed, IntKind.bits]; have := HKK.out; omega)
  have SW := Lib.hid (show IntKind.i64.wrap ((2 : Int) ^ k) = (2 : Int) ^ k by
    have h2 : 2 ^ k < 2 ^ 8 := Nat.pow_lt_pow_right (by decide) HKK.out
    have h3 : ((2 : Int) ^ k) = ((2 ^ k : Nat) : Int) := by norm_cast
    rw [h3]
    generalize 2 ^ k = z at h2
    exact IntWalk.i64_in _ ⟨by omega, by omega⟩)
  obtain ⟨y, hy⟩ : ∃ y, y = b ||| 2 ^ k := ⟨_, rfl⟩
  have hy256 : y < 256 := by rw [hy]; exact Nat.or_lt_two_pow (n := 8) hb (Nat.pow_lt_pow_right (by decide) hk)
  have OW := Lib.hid (show bits .or .i64 (b : Int) ((2 : Int) ^ k) = (y : Int) by rw [show ((2 : Int) ^ k) = ((2 ^ k : Nat) : Int) by norm_cast, hy]; exact or_nat b (2 ^ k) hb (show 2 ^ k < 2 ^ 8 from Nat.pow_lt_pow_right (by decide) hk))
  have CLIST := Lib.hid (fun W => (show Calls Try.prog 25 #[.int .u64 (v + 1), .int .i64 (y : Int)] W (ListPost (v + 1) xl W) by rw [hxm, ← hy]; exact list_any (v + 1) y hy256 W))
  clear hy hy256 hxm
  have CW := Lib.hid (fun W (h : Ex w W) => (show Calls Try.prog 31 #[LV v p, .int .i64 (k : Int)] W (LvPost (v + 1) xl true W) by
    have := with_any v p (k : Int) W (hp.ext h); rw [fit.wv, fit.wl, fit.wb] at this
    rwa [show decide ((0 : Int) < v + 1) = true by exact decide_eq_true (by omega)] at this))
  have CL := Lib.hid (fun W (h : Ex w W) => (show Calls Try.prog 35 #[LV v p, .int .i64 (k : Int)] W (LvPost (0) yl false W) by
    have := less_any' v p (k : Int) W (hp.ext h); rw [fit.lv, fit.ll, fit.lb] at this
    rwa [show decide ((0 : Int) < 0) = false by rfl] at this))
  have CH := Lib.hid (fun W (h : Ex w W) => (show Calls Try.prog 36 #[LV v p, .int .i64 (k : Int)] W fun e w' => e = .returned (.bool false) ∧ Below W.heap.size W w' by rw [← fit.has]; exact has_any v p (k : Int) W (hp.ext h)))
  have CM := Lib.hid (fun W (h : Ex w W) => (show Calls Try.prog 34 #[LV v p] W fun e w' => e = .returned (.int .i64 ((p.l.length : Int) / 2 + 1)) ∧ Below W.heap.size W w' by
    have := maj_any v p W (hp.ext h); unfold majI at this; rw [hr] at this; exact this))
  have CR := Lib.hid (fun W (h : Ex w W) => (show Calls Try.prog 29 #[LV v p, LV v p] W fun e w' => e = .returned (.bool true) ∧ Below W.heap.size W w' by
    have := rsame_any v v p p W (hp.ext h) (hp.ext h) hL hL; rwa [sameB_self] at this))
  have HXL := Lib.hid hxl
  have HYL := Lib.hid hyl
  have h8 : true = true → p.l.length ≤ 8 := fun h => (right_len (hr.trans h)).2.2.2.1
  obtain ⟨n, hn⟩ : ∃ n, n = p.l.length := ⟨_, rfl⟩
  rw [← hn] at CM h8
  have HNN := Lib.hid hn
  have C1 := Lib.hid (show p.V = .slice p.ad n p.cap by unfold Pt.V; rw [hn])
  have n8 : (n : Int) ≤ 8 := by have := h8 rfl; omega
  have b0 : Hid (LB (w.alloc (.cells #[.int .u64 v, p.V] 45)) w.heap.size v p) := Lib.hid (Bk.new rfl _ _)
  have BW := Lib.hid (show Ex w (w.alloc (.cells #[.int .u64 v, p.V] 45)) from (Below.refl _ _).alloc (Nat.le_refl _) _)
  rw [show (Calls Try.prog 24 #[LV v p, .int .i64 (k : Int)] w) = (Calls Try.prog 24 #[.agg #[.int .u64 v, p.V], .int .i64 (k : Int)] w) from rfl]
  clear fit hr hp hL hxl hyl h8 hn
  have q0 : (0 : Int) ≤ (k : Int) := by omega
  have q1 : (k : Int) < 8 := by have := HKK.out; omega
  have e7 : bits .and .i64 (k : Int) 7 = (k : Int) := and7 _ q0 q1
  have e1 : bits .and .i64 ((b : Int) / 2 ^ k) 1 = 0 := by rw [shr_bit b k HBB.out HKK.out, HBT.out]; rfl
  clear hb hk
  go_enter Try.func24, Try.ntmps24
  go_wp2_with (first | (with_reducible refine stop_load45 ?_) | (with_reducible refine stop_store45 ?_))
  have bw := BW.out
  generalize hw1 : w.alloc (.cells #[.int .u64 v, p.V] 45) = w1 at *
  obtain ⟨B, hB⟩ : ∃ B, B = w.heap.size := ⟨_, rfl⟩
  rw [← hB] at b0 ⊢
  have A := b0
  have HBw := Lib.hid hB
  clear hw1 hB BW b0
  (with_reducible refine ⟨?_⟩); (with_reducible refine at_any ?_ ?_); (focus go_simp); refine fun K hK => wp_ld45 _ B v p rfl rfl A.out (hK _ _ ?_)
  clear hK
  go_wp2_with (first | (with_reducible refine stop_load45 ?_) | (with_reducible refine stop_store45 ?_))
  refine (C48.out _ bw).mono ?_
  rintro e w2 ⟨rfl, x2⟩
  replace A := Lib.hid (LB.ext A.out x2)
  replace bw := Ex.trans bw x2
  clear x2 C48
  go_wp2_with (first | (with_reducible refine stop_load45 ?_) | (with_reducible refine stop_store45 ?_))
  (with_reducible refine ⟨?_⟩); (with_reducible refine at_any ?_ ?_); (focus go_simp); refine fun K hK => wp_ld45 _ B v p rfl rfl A.out (hK _ _ ?_)
  clear hK
  go_wp2_with (first | (with_reducible refine stop_load45 ?_) | (with_reducible refine stop_store45 ?_))
  refine (C49.out _ bw).mono ?_
  rintro e w3 ⟨rfl, x3⟩
  replace A := Lib.hid (LB.ext A.out x3)
  replace bw := Ex.trans bw x3
  clear x3 C49
  go_wp2_with (first | (with_reducible refine stop_load45 ?_) | (with_reducible refine stop_store45 ?_))
  (with_reducible refine ⟨?_⟩); (with_reducible refine at_any ?_ ?_); (focus go_simp); refine fun K hK => wp_ld45 _ B v p rfl rfl A.out (hK _ _ ?_)
  clear hK
  go_wp2_with (first | (with_reducible refine stop_load45 ?_) | (with_reducible refine stop_store45 ?_))
  refine (CSET.out _ bw).mono ?_
  rintro e w4 ⟨rfl, x4⟩
  replace A := Lib.hid (LB.ext A.out x4)
  replace bw := Ex.trans bw x4
  clear x4
  go_wp2_with (first | (with_reducible refine stop_load45 ?_) | (with_reducible refine stop_store45 ?_))
  (with_reducible refine ⟨?_⟩); (with_reducible refine at_any ?_ ?_); (focus go_simp); refine fun K hK => wp_ld45 _ B v p rfl rfl A.out (hK _ _ ?_)
  clear hK
  go_wp2_with (first | (with_reducible refine stop_load45 ?_) | (with_reducible refine stop_store45 ?_))
  refine (CW.out _ bw).mono ?_
  rintro e w5 ⟨ra, rfl, hra, i5, x5⟩
  go_wp2_with (first | (with_reducible refine stop_load45 ?_) | (with_reducible refine stop_store45 ?_))
  (with_reducible refine ⟨?_⟩); (with_reducible refine at_any ?_ ?_); (focus go_simp); refine fun K hK => wp_st45 _ _ w5.heap.size (v + 1) 0 ra nilP rfl rfl rfl (Bk.new rfl _ _) (fun w6 hd ho => hK _ _ ?_)
  have x56 := Ex.trans x5 ho.ex
  have JA := Lib.hid ((i5.ext ((Below.refl _ _).alloc (Nat.le_refl _) _)).st (n := 0) (q := nilP) ho (Bk.new rfl _ _))
  replace A := Lib.hid (LB.ext A.out x56)
  replace bw := Ex.trans bw x56
  generalize w5.heap.size = g7 at hd ⊢
  have G7 := Lib.hid hd
  have HRA := Lib.hid hra
  clear hK ho hd x5 x56 i5 CW hra
  go_wp2_with (first | (with_reducible refine stop_load45 ?_) | (with_reducible refine stop_store45 ?_))
  (with_reducible refine ⟨?_⟩); (with_reducible refine at_any ?_ ?_); (focus go_simp); refine fun K hK => wp_ld45 _ B v p rfl rfl A.out (hK _ _ ?_)
  clear hK
  go_wp2_with (first | (with_reducible refine stop_load45 ?_) | (with_reducible refine stop_store45 ?_))
  refine (CL.out _ bw).mono ?_
  rintro e w7 ⟨rb, rfl, hrb, i7, x7⟩
  go_wp2_with (first | (with_reducible refine stop_load45 ?_) | (with_reducible refine stop_store45 ?_))
  (with_reducible refine ⟨?_⟩); (with_reducible refine at_any ?_ ?_); (focus go_simp); refine fun K hK => wp_st45 _ _ w7.heap.size (0) 0 rb nilP rfl rfl rfl (Bk.new rfl _ _) (fun w8 hd ho => hK _ _ ?_)
  have x78 := Ex.trans x7 ho.ex
  have JB := Lib.hid ((i7.ext ((Below.refl _ _).alloc (Nat.le_refl _) _)).st (n := 0) (q := nilP) ho (Bk.new rfl _ _))
  replace A := Lib.hid (LB.ext A.out x78)
  replace G7 := Lib.hid (LB.ext G7.out x78)
  replace JA := Lib.hid (Pt.In.ext JA.out x78)
  replace bw := Ex.trans bw x78
  generalize w7.heap.size = g9 at hd ⊢
  have G9 := Lib.hid hd
  have HRB := Lib.hid hrb
  clear hK ho hd x7 x78 i7 CL hrb
  go_wp2_with (first | (with_reducible refine stop_load45 ?_) | (with_reducible refine stop_store45 ?_))
  have xz : Ex w8 ((w8.alloc (.cells #[.int .u64 0, .slice none 0 0] 45)).alloc (.cells #[.int .u64 0, .slice none 0 0] 45)) := ((Below.refl _ _).alloc (Nat.le_refl _) _).alloc (by simp) _
  have z1 : LB ((w8.alloc (.cells #[.int .u64 0, .slice none 0 0] 45)).alloc (.cells #[.int .u64 0, .slice none 0 0] 45)) w8.heap.size 0 nilP := (Bk.new rfl _ _).more _
  have z2 : LB ((w8.alloc (.cells #[.int .u64 0, .slice none 0 0] 45)).alloc (.cells #[.int .u64 0, .slice none 0 0] 45)) (w8.heap.size + 1) 0 nilP := Bk.new (by simp) _ _
  (with_reducible refine ⟨?_⟩); (with_reducible refine at_any ?_ ?_); (focus go_simp); refine fun K hK => wp_st45 _ _ w8.heap.size 0 0 nilP nilP rfl rfl rfl z1 (fun w9 hd ho => hK _ _ ?_)
  have x89 : Ex w8 w9 := ho.below _ (Nat.le_refl _) _ xz
  have z3 := Lib.hid (ho.lb z2 (by omega))
  obtain ⟨g11, hg⟩ : ∃ g, g = w8.heap.size := ⟨_, rfl⟩
  have lt11 := Lib.hid (show B < g11 ∧ g7 < g11 ∧ g9 < g11 from ⟨by rw [hg]; exact Bk.lt A.out, by rw [hg]; exact Bk.lt G7.out, by rw [hg]; exact Bk.lt G9.out⟩)
  replace A := Lib.hid (LB.ext A.out x89)
  replace G7 := Lib.hid (LB.ext G7.out x89)
  replace G9 := Lib.hid (LB.ext G9.out x89)
  replace JA := Lib.hid (Pt.In.ext JA.out x89)
  replace JB := Lib.hid (Pt.In.ext JB.out x89)
  replace bw := Ex.trans bw x89
  have wl := Lib.hid (show w.heap.size ≤ g11 by rw [← HBw.out]; exact Nat.le_of_lt lt11.out.1)
  rw [← hg] at hd z3 ⊢
  have Z11 := Lib.hid hd
  clear hK ho hd xz z1 z2 x89 hg
  go_wp2_with (first | (with_reducible refine stop_load45 ?_) | (with_reducible refine stop_store45 ?_))
  (with_reducible refine ⟨?_⟩); (with_reducible refine at_any ?_ ?_); (focus go_simp); refine fun K hK => wp_st45 _ _ (g11 + 1) 0 0 nilP nilP rfl rfl rfl z3.out (fun w10 hd ho => hK _ _ ?_)
  have ll := lt11.out
  replace A := Lib.hid (ho.lb A.out (by omega))
  replace G7 := Lib.hid (ho.lb G7.out (by omega))
  replace G9 := Lib.hid (ho.lb G9.out (by omega))
  replace Z11 := Lib.hid (ho.lb Z11.out (by omega))
  replace JA := Lib.hid (Pt.In.st JA.out ho z3.out)
  replace JB := Lib.hid (Pt.In.st JB.out ho z3.out)
  replace bw : Ex w w10 := ho.below w.heap.size (by have := wl.out; omega) w bw
  have Z12 := Lib.hid hd
  clear hK ho hd z3 ll
  generalize w10 = wr at *
  obtain ⟨g12, hg12⟩ : ∃ g, g = g11 + 1 := ⟨_, rfl⟩
  rw [← hg12] at Z12 ⊢
  have HG12 := Lib.hid hg12
  clear hg12
  have f0 : wr.cell? ⟨B, 0, none⟩ = some (.int .u64 v) := Bk.cell A.out 0
  have f1 : wr.cell? ⟨B, 1, none⟩ = some (.slice p.ad n p.cap) := by rw [← C1.out]; exact Bk.cell A.out 1
  go_wp2_with (first | (with_reducible refine stop_load45 ?_) | (with_reducible refine stop_store45 ?_))
  clear f0 f1
  obtain ⟨T, hT⟩ : ∃ T : List Ar, T = [.is (.pointer (some ⟨B, 0, none⟩)), .is (.int .u64 v), .is (.int .u64 (v + 1)), .is (LV v p), .is (.int .i64 (b : Int)), .is (.int .i64 (k : Int)), .is (.int .u64 (k : Int)), .is (.int .i64 (2 ^ k)), .is (.int .i64 (y : Int)), .lv (v + 1) (xl)] := ⟨_, rfl⟩
  refine wp_region_flow 10 (arPhi T) (by kernel_rfl) rfl (by kernel_rfl) (by kernel_rfl) (by kernel_rfl) (arPhi_stable T) (fitB_spec (by kernel_rfl)) ?_ ?_
  · intro i o hi ho
    have hi' : i = 0 ∨ i = 1 ∨ i = 2 ∨ i = 3 ∨ i = 4 ∨ i = 5 ∨ i = 6 ∨ i = 7 ∨ i = 8 ∨ i = 9 := by omega
    clear hi
    rcases hi' with rfl | rfl | rfl | rfl | rfl | rfl | rfl | rfl | rfl | rfl
    all_goals (simp only [List.getElem?_toArray, List.getElem?_cons_zero, List.getElem?_cons_succ, Option.some.injEq] at ho; subst ho; intro a w2 hx hsz hdep hout)
    · rw [if_pos (by rfl)]
      intro K hK
      have q2 := hout 2 (outB_spec (by kernel_rfl))
      clear hsz hdep hout
      go_simp
      exact hK _ _ (Ex.refl _) (by rw [hT]; rfl)
    · rw [if_pos (by rfl)]
      intro K hK
      obtain ⟨v71, h71, k71⟩ := hdep ⟨0, .data⟩ (by simp) rfl _ rfl
      have q71 := k71 _ rfl
      clear k71
      rw [hT] at h71
      obtain rfl : v71 = .pointer (some ⟨B, 0, none⟩) := h71
      have f1 : w2.cell? ⟨B, 0, none⟩ = some (.int .u64 v) := Bk.cell (LB.ext A.out (Ex.trans (show Ex wr wr.drew from (Below.refl _ _).drew) hx)) 0
      clear hsz hdep hout
      go_simp
      exact hK _ _ (Ex.refl _) (by rw [hT]; rfl)
    · rw [if_pos (by rfl)]
      intro K hK
      obtain ⟨v72, h72, k72⟩ := hdep ⟨1, .data⟩ (by simp) rfl _ rfl
      have q72 := k72 _ rfl
      clear k72
      rw [hT] at h72
      obtain rfl : v72 = .int .u64 v := h72
      have vw := VW.out
      clear hsz hdep hout
      go_simp
      exact hK _ _ (Ex.refl _) (by rw [hT]; rfl)
    · rw [if_pos (by rfl)]
      intro K hK
      have q2 := hout 2 (outB_spec (by kernel_rfl))
      exact wp_ld45 _ B v p rfl q2 (LB.ext A.out (Ex.trans (show Ex wr wr.drew from (Below.refl _ _).drew) hx)) (hK _ _ (Ex.refl _) (by rw [hT]; rfl))
    · rw [if_pos (by rfl)]
      intro K hK
      obtain ⟨v74, h74, k74⟩ := hdep ⟨3, .data⟩ (by simp) rfl _ rfl
      have q74 := k74 _ rfl
      clear k74
      rw [hT] at h74
      obtain rfl : v74 = LV v p := h74
      clear hsz hdep hout
      go_simp
      refine (CSET.out w2 (Ex.trans bw (Ex.trans (show Ex wr wr.drew from (Below.refl _ _).drew) hx))).mono ?_
      rintro e w3 ⟨rfl, x3⟩
      exact hK _ _ x3 (by rw [hT]; rfl)
    · rw [if_pos (by rfl)]
      intro K hK
      have q1 := hout 1 (outB_spec (by kernel_rfl))
      exact wp_mv _ rfl (hK _ _ (Ex.refl _) (by rw [hT]; exact q1))
    · rw [if_pos (by rfl)]
      intro K hK
      obtain ⟨v76, h76, k76⟩ := hdep ⟨5, .data⟩ (by simp) rfl _ rfl
      have q76 := k76 _ rfl
      clear k76
      rw [hT] at h76
      obtain rfl : v76 = .int .i64 (k : Int) := h76
      have ku := KU.out
      have kw := KW.out
      clear hsz hdep hout
      go_simp
      exact hK _ _ (Ex.refl _) (by rw [hT]; rfl)
    · rw [if_pos (by rfl)]
      intro K hK
      obtain ⟨v77, h77, k77⟩ := hdep ⟨6, .data⟩ (by simp) rfl _ rfl
      have q77 := k77 _ rfl
      clear k77
      rw [hT] at h77
      obtain rfl : v77 = .int .u64 (k : Int) := h77
      have sw := SW.out
      clear hsz hdep hout
      go_simp
      exact hK _ _ (Ex.refl _) (by rw [hT]; rfl)
    · rw [if_pos (by rfl)]
      intro K hK
      obtain ⟨v75, h75, k75⟩ := hdep ⟨4, .data⟩ (by simp) rfl _ rfl
      have q75 := k75 _ rfl
      clear k75
      rw [hT] at h75
      obtain rfl : v75 = .int .i64 (b : Int) := h75
      obtain ⟨v78, h78, k78⟩ := hdep ⟨7, .data⟩ (by simp) rfl _ rfl
      have q78 := k78 _ rfl
      clear k78
      rw [hT] at h78
      obtain rfl : v78 = .int .i64 (2 ^ k) := h78
      have ow := OW.out
      clear hsz hdep hout
      go_simp
      exact hK _ _ (Ex.refl _) (by rw [hT]; rfl)
    · rw [if_pos (by rfl)]
      intro K hK
      obtain ⟨v73, h73, k73⟩ := hdep ⟨2, .data⟩ (by simp) rfl _ rfl
      have q73 := k73 _ rfl
      clear k73
      rw [hT] at h73
      obtain rfl : v73 = .int .u64 (v + 1) := h73
      obtain ⟨v79, h79, k79⟩ := hdep ⟨8, .data⟩ (by simp) rfl _ rfl
      have q79 := k79 _ rfl
      clear k79
      rw [hT] at h79
      obtain rfl : v79 = .int .i64 (y : Int) := h79
      clear hsz hdep hout
      go_simp
      refine (CLIST.out w2).mono ?_
      rintro e w3 ⟨q, rfl, lq, iq, xq⟩
      exact hK _ _ xq (by rw [hT]; exact ⟨q, rfl, lq, iq⟩)
  · intro a w2 hx hdef hsz hdone hout
    obtain ⟨v80, h80, k80⟩ := hdone 9 _ (by omega) rfl
    have q80 := k80 _ rfl
    clear k80
    rw [hT] at h80
    obtain ⟨p80, rfl, l80, i80⟩ := h80
    clear hdone hT
    have hA := arr_range a.tmps 167 hsz
    change a.tmps = #[a.tmps[0]?.getD undef, a.tmps[1]?.getD undef, a.tmps[2]?.getD undef, a.tmps[3]?.getD undef, a.tmps[4]?.getD undef, a.tmps[5]?.getD undef, a.tmps[6]?.getD undef, a.tmps[7]?.getD undef, a.tmps[8]?.getD undef, a.tmps[9]?.getD undef, a.tmps[10]?.getD undef, a.tmps[11]?.getD undef, a.tmps[12]?.getD undef, a.tmps[13]?.getD undef, a.tmps[14]?.getD undef, a.tmps[15]?.getD undef, a.tmps[16]?.getD undef, a.tmps[17]?.getD undef, a.tmps[18]?.getD undef, a.tmps[19]?.getD undef, a.tmps[20]?.getD undef, a.tmps[21]?.getD undef, a.tmps[22]?.getD undef, a.tmps[23]?.getD undef, a.tmps[24]?.getD undef, a.tmps[25]?.getD undef, a.tmps[26]?.getD undef, a.tmps[27]?.getD undef, a.tmps[28]?.getD undef, a.tmps[29]?.getD undef, a.tmps[30]?.getD undef, a.tmps[31]?.getD undef, a.tmps[32]?.getD undef, a.tmps[33]?.getD undef, a.tmps[34]?.getD undef, a.tmps[35]?.getD undef, a.tmps[36]?.getD undef, a.tmps[37]?.getD undef, a.tmps[38]?.getD undef, a.tmps[39]?.getD undef, a.tmps[40]?.getD undef, a.tmps[41]?.getD undef, a.tmps[42]?.getD undef, a.tmps[43]?.getD undef, a.tmps[44]?.getD undef, a.tmps[45]?.getD undef, a.tmps[46]?.getD undef, a.tmps[47]?.getD undef, a.tmps[48]?.getD undef, a.tmps[49]?.getD undef, a.tmps[50]?.getD undef, a.tmps[51]?.getD undef, a.tmps[52]?.getD undef, a.tmps[53]?.getD undef, a.tmps[54]?.getD undef, a.tmps[55]?.getD undef, a.tmps[56]?.getD undef, a.tmps[57]?.getD undef, a.tmps[58]?.getD undef, a.tmps[59]?.getD undef, a.tmps[60]?.getD undef, a.tmps[61]?.getD undef, a.tmps[62]?.getD undef, a.tmps[63]?.getD undef, a.tmps[64]?.getD undef, a.tmps[65]?.getD undef, a.tmps[66]?.getD undef, a.tmps[67]?.getD undef, a.tmps[68]?.getD undef, a.tmps[69]?.getD undef, a.tmps[70]?.getD undef, a.tmps[71]?.getD undef, a.tmps[72]?.getD undef, a.tmps[73]?.getD undef, a.tmps[74]?.getD undef, a.tmps[75]?.getD undef, a.tmps[76]?.getD undef, a.tmps[77]?.getD undef, a.tmps[78]?.getD undef, a.tmps[79]?.getD undef, a.tmps[80]?.getD undef, a.tmps[81]?.getD undef, a.tmps[82]?.getD undef, a.tmps[83]?.getD undef, a.tmps[84]?.getD undef, a.tmps[85]?.getD undef, a.tmps[86]?.getD undef, a.tmps[87]?.getD undef, a.tmps[88]?.getD undef, a.tmps[89]?.getD undef, a.tmps[90]?.getD undef, a.tmps[91]?.getD undef, a.tmps[92]?.getD undef, a.tmps[93]?.getD undef, a.tmps[94]?.getD undef, a.tmps[95]?.getD undef, a.tmps[96]?.getD undef, a.tmps[97]?.getD undef, a.tmps[98]?.getD undef, a.tmps[99]?.getD undef, a.tmps[100]?.getD undef, a.tmps[101]?.getD undef, a.tmps[102]?.getD undef, a.tmps[103]?.getD undef, a.tmps[104]?.getD undef, a.tmps[105]?.getD undef, a.tmps[106]?.getD undef, a.tmps[107]?.getD undef, a.tmps[108]?.getD undef, a.tmps[109]?.getD undef, a.tmps[110]?.getD undef, a.tmps[111]?.getD undef, a.tmps[112]?.getD undef, a.tmps[113]?.getD undef, a.tmps[114]?.getD undef, a.tmps[115]?.getD undef, a.tmps[116]?.getD undef, a.tmps[117]?.getD undef, a.tmps[118]?.getD undef, a.tmps[119]?.getD undef, a.tmps[120]?.getD undef, a.tmps[121]?.getD undef, a.tmps[122]?.getD undef, a.tmps[123]?.getD undef, a.tmps[124]?.getD undef, a.tmps[125]?.getD undef, a.tmps[126]?.getD undef, a.tmps[127]?.getD undef, a.tmps[128]?.getD undef, a.tmps[129]?.getD undef, a.tmps[130]?.getD undef, a.tmps[131]?.getD undef, a.tmps[132]?.getD undef, a.tmps[133]?.getD undef, a.tmps[134]?.getD undef, a.tmps[135]?.getD undef, a.tmps[136]?.getD undef, a.tmps[137]?.getD undef, a.tmps[138]?.getD undef, a.tmps[139]?.getD undef, a.tmps[140]?.getD undef, a.tmps[141]?.getD undef, a.tmps[142]?.getD undef, a.tmps[143]?.getD undef, a.tmps[144]?.getD undef, a.tmps[145]?.getD undef, a.tmps[146]?.getD undef, a.tmps[147]?.getD undef, a.tmps[148]?.getD undef, a.tmps[149]?.getD undef, a.tmps[150]?.getD undef, a.tmps[151]?.getD undef, a.tmps[152]?.getD undef, a.tmps[153]?.getD undef, a.tmps[154]?.getD undef, a.tmps[155]?.getD undef, a.tmps[156]?.getD undef, a.tmps[157]?.getD undef, a.tmps[158]?.getD undef, a.tmps[159]?.getD undef, a.tmps[160]?.getD undef, a.tmps[161]?.getD undef, a.tmps[162]?.getD undef, a.tmps[163]?.getD undef, a.tmps[164]?.getD undef, a.tmps[165]?.getD undef, a.tmps[166]?.getD undef] at hA
    have e0 := hout 0 (fun i o _ h => outB_spec (by kernel_rfl) i o h)
    have e1 := hout 1 (fun i o _ h => outB_spec (by kernel_rfl) i o h)
    have e2 := hout 2 (fun i o _ h => outB_spec (by kernel_rfl) i o h)
    have e3 := hout 3 (fun i o _ h => outB_spec (by kernel_rfl) i o h)
    have e4 := hout 4 (fun i o _ h => outB_spec (by kernel_rfl) i o h)
    have e5 := hout 5 (fun i o _ h => outB_spec (by kernel_rfl) i o h)
    have e6 := hout 6 (fun i o _ h => outB_spec (by kernel_rfl) i o h)
    have e7 := hout 7 (fun i o _ h => outB_spec (by kernel_rfl) i o h)
    have e8 := hout 8 (fun i o _ h => outB_spec (by kernel_rfl) i o h)
    have e9 := hout 9 (fun i o _ h => outB_spec (by kernel_rfl) i o h)
    have e10 := hout 10 (fun i o _ h => outB_spec (by kernel_rfl) i o h)
    have e11 := hout 11 (fun i o _ h => outB_spec (by kernel_rfl) i o h)
    have e12 := hout 12 (fun i o _ h => outB_spec (by kernel_rfl) i o h)
    have e13 := hout 13 (fun i o _ h => outB_spec (by kernel_rfl) i o h)
    have e14 := hout 14 (fun i o _ h => outB_spec (by kernel_rfl) i o h)
    have e15 := hout 15 (fun i o _ h => outB_spec (by kernel_rfl) i o h)
    have e16 := hout 16 (fun i o _ h => outB_spec (by kernel_rfl) i o h)
    have e17 := hout 17 (fun i o _ h => outB_spec (by kernel_rfl) i o h)
    have e18 := hout 18 (fun i o _ h => outB_spec (by kernel_rfl) i o h)
    have e19 := hout 19 (fun i o _ h => outB_spec (by kernel_rfl) i o h)
    have e20 := hout 20 (fun i o _ h => outB_spec (by kernel_rfl) i o h)
    have e21 := hout 21 (fun i o _ h => outB_spec (by kernel_rfl) i o h)
    have e22 := hout 22 (fun i o _ h => outB_spec (by kernel_rfl) i o h)
    have e23 := hout 23 (fun i o _ h => outB_spec (by kernel_rfl) i o h)
    have e24 := hout 24 (fun i o _ h => outB_spec (by kernel_rfl) i o h)
    have e25 := hout 25 (fun i o _ h => outB_spec (by kernel_rfl) i o h)
    have e26 := hout 26 (fun i o _ h => outB_spec (by kernel_rfl) i o h)
    have e27 := hout 27 (fun i o _ h => outB_spec (by kernel_rfl) i o h)
    have e28 := hout 28 (fun i o _ h => outB_spec (by kernel_rfl) i o h)
    have e29 := hout 29 (fun i o _ h => outB_spec (by kernel_rfl) i o h)
    have e30 := hout 30 (fun i o _ h => outB_spec (by kernel_rfl) i o h)
    have e31 := hout 31 (fun i o _ h => outB_spec (by kernel_rfl) i o h)
    have e32 := hout 32 (fun i o _ h => outB_spec (by kernel_rfl) i o h)
    have e33 := hout 33 (fun i o _ h => outB_spec (by kernel_rfl) i o h)
    have e34 := hout 34 (fun i o _ h => outB_spec (by kernel_rfl) i o h)
    have e35 := hout 35 (fun i o _ h => outB_spec (by kernel_rfl) i o h)
    have e36 := hout 36 (fun i o _ h => outB_spec (by kernel_rfl) i o h)
    have e37 := hout 37 (fun i o _ h => outB_spec (by kernel_rfl) i o h)
    have e38 := hout 38 (fun i o _ h => outB_spec (by kernel_rfl) i o h)
    have e39 := hout 39 (fun i o _ h => outB_spec (by kernel_rfl) i o h)
    have e40 := hout 40 (fun i o _ h => outB_spec (by kernel_rfl) i o h)
    have e41 := hout 41 (fun i o _ h => outB_spec (by kernel_rfl) i o h)
    have e42 := hout 42 (fun i o _ h => outB_spec (by kernel_rfl) i o h)
    have e43 := hout 43 (fun i o _ h => outB_spec (by kernel_rfl) i o h)
    have e44 := hout 44 (fun i o _ h => outB_spec (by kernel_rfl) i o h)
    have e45 := hout 45 (fun i o _ h => outB_spec (by kernel_rfl) i o h)
    have e46 := hout 46 (fun i o _ h => outB_spec (by kernel_rfl) i o h)
    have e47 := hout 47 (fun i o _ h => outB_spec (by kernel_rfl) i o h)
    have e48 := hout 48 (fun i o _ h => outB_spec (by kernel_rfl) i o h)
    have e49 := hout 49 (fun i o _ h => outB_spec (by kernel_rfl) i o h)
    have e50 := hout 50 (fun i o _ h => outB_spec (by kernel_rfl) i o h)
    have e51 := hout 51 (fun i o _ h => outB_spec (by kernel_rfl) i o h)
    have e52 := hout 52 (fun i o _ h => outB_spec (by kernel_rfl) i o h)
    have e53 := hout 53 (fun i o _ h => outB_spec (by kernel_rfl) i o h)
    have e54 := hout 54 (fun i o _ h => outB_spec (by kernel_rfl) i o h)
    have e55 := hout 55 (fun i o _ h => outB_spec (by kernel_rfl) i o h)
    have e56 := hout 56 (fun i o _ h => outB_spec (by kernel_rfl) i o h)
    have e57 := hout 57 (fun i o _ h => outB_spec (by kernel_rfl) i o h)
    have e58 := hout 58 (fun i o _ h => outB_spec (by kernel_rfl) i o h)
    have e59 := hout 59 (fun i o _ h => outB_spec (by kernel_rfl) i o h)
    have e60 := hout 60 (fun i o _ h => outB_spec (by kernel_rfl) i o h)
    have e61 := hout 61 (fun i o _ h => outB_spec (by kernel_rfl) i o h)
    have e62 := hout 62 (fun i o _ h => outB_spec (by kernel_rfl) i o h)
    have e63 := hout 63 (fun i o _ h => outB_spec (by kernel_rfl) i o h)
    have e64 := hout 64 (fun i o _ h => outB_spec (by kernel_rfl) i o h)
    have e65 := hout 65 (fun i o _ h => outB_spec (by kernel_rfl) i o h)
    have e66 := hout 66 (fun i o _ h => outB_spec (by kernel_rfl) i o h)
    have e67 := hout 67 (fun i o _ h => outB_spec (by kernel_rfl) i o h)
    have e68 := hout 68 (fun i o _ h => outB_spec (by kernel_rfl) i o h)
    have e69 := hout 69 (fun i o _ h => outB_spec (by kernel_rfl) i o h)
    have e70 := hout 70 (fun i o _ h => outB_spec (by kernel_rfl) i o h)
    have e81 := hout 81 (fun i o _ h => outB_spec (by kernel_rfl) i o h)
    have e82 := hout 82 (fun i o _ h => outB_spec (by kernel_rfl) i o h)
    have e83 := hout 83 (fun i o _ h => outB_spec (by kernel_rfl) i o h)
    have e84 := hout 84 (fun i o _ h => outB_spec (by kernel_rfl) i o h)
    have e85 := hout 85 (fun i o _ h => outB_spec (by kernel_rfl) i o h)
    have e86 := hout 86 (fun i o _ h => outB_spec (by kernel_rfl) i o h)
    have e87 := hout 87 (fun i o _ h => outB_spec (by kernel_rfl) i o h)
    have e88 := hout 88 (fun i o _ h => outB_spec (by kernel_rfl) i o h)
    have e89 := hout 89 (fun i o _ h => outB_spec (by kernel_rfl) i o h)
    have e90 := hout 90 (fun i o _ h => outB_spec (by kernel_rfl) i o h)
    have e91 := hout 91 (fun i o _ h => outB_spec (by kernel_rfl) i o h)
    have e92 := hout 92 (fun i o _ h => outB_spec (by kernel_rfl) i o h)
    have e93 := hout 93 (fun i o _ h => outB_spec (by kernel_rfl) i o h)
    have e94 := hout 94 (fun i o _ h => outB_spec (by kernel_rfl) i o h)
    have e95 := hout 95 (fun i o _ h => outB_spec (by kernel_rfl) i o h)
    have e96 := hout 96 (fun i o _ h => outB_spec (by kernel_rfl) i o h)
    have e97 := hout 97 (fun i o _ h => outB_spec (by kernel_rfl) i o h)
    have e98 := hout 98 (fun i o _ h => outB_spec (by kernel_rfl) i o h)
    have e99 := hout 99 (fun i o _ h => outB_spec (by kernel_rfl) i o h)
    have e100 := hout 100 (fun i o _ h => outB_spec (by kernel_rfl) i o h)
    have e101 := hout 101 (fun i o _ h => outB_spec (by kernel_rfl) i o h)
    have e102 := hout 102 (fun i o _ h => outB_spec (by kernel_rfl) i o h)
    have e103 := hout 103 (fun i o _ h => outB_spec (by kernel_rfl) i o h)
    have e104 := hout 104 (fun i o _ h => outB_spec (by kernel_rfl) i o h)
    have e105 := hout 105 (fun i o _ h => outB_spec (by kernel_rfl) i o h)
    have e106 := hout 106 (fun i o _ h => outB_spec (by kernel_rfl) i o h)
    have e107 := hout 107 (fun i o _ h => outB_spec (by kernel_rfl) i o h)
    have e108 := hout 108 (fun i o _ h => outB_spec (by kernel_rfl) i o h)
    have e109 := hout 109 (fun i o _ h => outB_spec (by kernel_rfl) i o h)
    have e110 := hout 110 (fun i o _ h => outB_spec (by kernel_rfl) i o h)
    have e111 := hout 111 (fun i o _ h => outB_spec (by kernel_rfl) i o h)
    have e112 := hout 112 (fun i o _ h => outB_spec (by kernel_rfl) i o h)
    have e113 := hout 113 (fun i o _ h => outB_spec (by kernel_rfl) i o h)
    have e114 := hout 114 (fun i o _ h => outB_spec (by kernel_rfl) i o h)
    have e115 := hout 115 (fun i o _ h => outB_spec (by kernel_rfl) i o h)
    have e116 := hout 116 (fun i o _ h => outB_spec (by kernel_rfl) i o h)
    have e117 := hout 117 (fun i o _ h => outB_spec (by kernel_rfl) i o h)
    have e118 := hout 118 (fun i o _ h => outB_spec (by kernel_rfl) i o h)
    have e119 := hout 119 (fun i o _ h => outB_spec (by kernel_rfl) i o h)
    have e120 := hout 120 (fun i o _ h => outB_spec (by kernel_rfl) i o h)
    have e121 := hout 121 (fun i o _ h => outB_spec (by kernel_rfl) i o h)
    have e122 := hout 122 (fun i o _ h => outB_spec (by kernel_rfl) i o h)
    have e123 := hout 123 (fun i o _ h => outB_spec (by kernel_rfl) i o h)
    have e124 := hout 124 (fun i o _ h => outB_spec (by kernel_rfl) i o h)
    have e125 := hout 125 (fun i o _ h => outB_spec (by kernel_rfl) i o h)
    have e126 := hout 126 (fun i o _ h => outB_spec (by kernel_rfl) i o h)
    have e127 := hout 127 (fun i o _ h => outB_spec (by kernel_rfl) i o h)
    have e128 := hout 128 (fun i o _ h => outB_spec (by kernel_rfl) i o h)
    have e129 := hout 129 (fun i o _ h => outB_spec (by kernel_rfl) i o h)
    have e130 := hout 130 (fun i o _ h => outB_spec (by kernel_rfl) i o h)
    have e131 := hout 131 (fun i o _ h => outB_spec (by kernel_rfl) i o h)
    have e132 := hout 132 (fun i o _ h => outB_spec (by kernel_rfl) i o h)
    have e133 := hout 133 (fun i o _ h => outB_spec (by kernel_rfl) i o h)
    have e134 := hout 134 (fun i o _ h => outB_spec (by kernel_rfl) i o h)
    have e135 := hout 135 (fun i o _ h => outB_spec (by kernel_rfl) i o h)
    have e136 := hout 136 (fun i o _ h => outB_spec (by kernel_rfl) i o h)
    have e137 := hout 137 (fun i o _ h => outB_spec (by kernel_rfl) i o h)
    have e138 := hout 138 (fun i o _ h => outB_spec (by kernel_rfl) i o h)
    have e139 := hout 139 (fun i o _ h => outB_spec (by kernel_rfl) i o h)
    have e140 := hout 140 (fun i o _ h => outB_spec (by kernel_rfl) i o h)
    have e141 := hout 141 (fun i o _ h => outB_spec (by kernel_rfl) i o h)
    have e142 := hout 142 (fun i o _ h => outB_spec (by kernel_rfl) i o h)
    have e143 := hout 143 (fun i o _ h => outB_spec (by kernel_rfl) i o h)
    have e144 := hout 144 (fun i o _ h => outB_spec (by kernel_rfl) i o h)
    have e145 := hout 145 (fun i o _ h => outB_spec (by kernel_rfl) i o h)
    have e146 := hout 146 (fun i o _ h => outB_spec (by kernel_rfl) i o h)
    have e147 := hout 147 (fun i o _ h => outB_spec (by kernel_rfl) i o h)
    have e148 := hout 148 (fun i o _ h => outB_spec (by kernel_rfl) i o h)
    have e149 := hout 149 (fun i o _ h => outB_spec (by kernel_rfl) i o h)
    have e150 := hout 150 (fun i o _ h => outB_spec (by kernel_rfl) i o h)
    have e151 := hout 151 (fun i o _ h => outB_spec (by kernel_rfl) i o h)
    have e152 := hout 152 (fun i o _ h => outB_spec (by kernel_rfl) i o h)
    have e153 := hout 153 (fun i o _ h => outB_spec (by kernel_rfl) i o h)
    have e154 := hout 154 (fun i o _ h => outB_spec (by kernel_rfl) i o h)
    have e155 := hout 155 (fun i o _ h => outB_spec (by kernel_rfl) i o h)
    have e156 := hout 156 (fun i o _ h => outB_spec (by kernel_rfl) i o h)
    have e157 := hout 157 (fun i o _ h => outB_spec (by kernel_rfl) i o h)
    have e158 := hout 158 (fun i o _ h => outB_spec (by kernel_rfl) i o h)
    have e159 := hout 159 (fun i o _ h => outB_spec (by kernel_rfl) i o h)
    have e160 := hout 160 (fun i o _ h => outB_spec (by kernel_rfl) i o h)
    have e161 := hout 161 (fun i o _ h => outB_spec (by kernel_rfl) i o h)
    have e162 := hout 162 (fun i o _ h => outB_spec (by kernel_rfl) i o h)
    have e163 := hout 163 (fun i o _ h => outB_spec (by kernel_rfl) i o h)
    have e164 := hout 164 (fun i o _ h => outB_spec (by kernel_rfl) i o h)
    have e165 := hout 165 (fun i o _ h => outB_spec (by kernel_rfl) i o h)
    have e166 := hout 166 (fun i o _ h => outB_spec (by kernel_rfl) i o h)
    simp only [Array.getD_eq_getD_getElem?, List.getElem?_toArray, List.getElem?_cons_zero, List.getElem?_cons_succ, Option.getD_some] at e0 e1 e2 e3 e4 e5 e6 e7 e8 e9 e10 e11 e12 e13 e14 e15 e16 e17 e18 e19 e20 e21 e22 e23 e24 e25 e26 e27 e28 e29 e30 e31 e32 e33 e34 e35 e36 e37 e38 e39 e40 e41 e42 e43 e44 e45 e46 e47 e48 e49 e50 e51 e52 e53 e54 e55 e56 e57 e58 e59 e60 e61 e62 e63 e64 e65 e66 e67 e68 e69 e70 e81 e82 e83 e84 e85 e86 e87 e88 e89 e90 e91 e92 e93 e94 e95 e96 e97 e98 e99 e100 e101 e102 e103 e104 e105 e106 e107 e108 e109 e110 e111 e112 e113 e114 e115 e116 e117 e118 e119 e120 e121 e122 e123 e124 e125 e126 e127 e128 e129 e130 e131 e132 e133 e134 e135 e136 e137 e138 e139 e140 e141 e142 e143 e144 e145 e146 e147 e148 e149 e150 e151 e152 e153 e154 e155 e156 e157 e158 e159 e160 e161 e162 e163 e164 e165 e166
    rw [e0, e1, e2, e3, e4, e5, e6, e7, e8, e9, e10, e11, e12, e13, e14, e15, e16, e17, e18, e19, e20, e21, e22, e23, e24, e25, e26, e27, e28, e29, e30, e31, e32, e33, e34, e35, e36, e37, e38, e39, e40, e41, e42, e43, e44, e45, e46, e47, e48, e49, e50, e51, e52, e53, e54, e55, e56, e57, e58, e59, e60, e61, e62, e63, e64, e65, e66, e67, e68, e69, e70, e81, e82, e83, e84, e85, e86, e87, e88, e89, e90, e91, e92, e93, e94, e95, e96, e97, e98, e99, e100, e101, e102, e103, e104, e105, e106, e107, e108, e109, e110, e111, e112, e113, e114, e115, e116, e117, e118, e119, e120, e121, e122, e123, e124, e125, e126, e127, e128, e129, e130, e131, e132, e133, e134, e135, e136, e137, e138, e139, e140, e141, e142, e143, e144, e145, e146, e147, e148, e149, e150, e151, e152, e153, e154, e155, e156, e157, e158, e159, e160, e161, e162, e163, e164, e165, e166] at hA
    clear e0 e1 e2 e3 e4 e5 e6 e7 e8 e9 e10 e11 e12 e13 e14 e15 e16 e17 e18 e19 e20 e21 e22 e23 e24 e25 e26 e27 e28 e29 e30 e31 e32 e33 e34 e35 e36 e37 e38 e39 e40 e41 e42 e43 e44 e45 e46 e47 e48 e49 e50 e51 e52 e53 e54 e55 e56 e57 e58 e59 e60 e61 e62 e63 e64 e65 e66 e67 e68 e69 e70 e81 e82 e83 e84 e85 e86 e87 e88 e89 e90 e91 e92 e93 e94 e95 e96 e97 e98 e99 e100 e101 e102 e103 e104 e105 e106 e107 e108 e109 e110 e111 e112 e113 e114 e115 e116 e117 e118 e119 e120 e121 e122 e123 e124 e125 e126 e127 e128 e129 e130 e131 e132 e133 e134 e135 e136 e137 e138 e139 e140 e141 e142 e143 e144 e145 e146 e147 e148 e149 e150 e151 e152 e153 e154 e155 e156 e157 e158 e159 e160 e161 e162 e163 e164 e165 e166 hout
    have hds2 : a.defers = [] := hdef
    have ea : a = ⟨a.tmps, a.defers⟩ := rfl
    rw [Array.getD_eq_getD_getElem?] at q80
    rw [hA, hds2, q80] at ea
    clear hA hds2 q80 hdef
    generalize a.tmps[71]?.getD undef = y71 at ea
    generalize a.tmps[72]?.getD undef = y72 at ea
    generalize a.tmps[73]?.getD undef = y73 at ea
    generalize a.tmps[74]?.getD undef = y74 at ea
    generalize a.tmps[75]?.getD undef = y75 at ea
    generalize a.tmps[76]?.getD undef = y76 at ea
    generalize a.tmps[77]?.getD undef = y77 at ea
    generalize a.tmps[78]?.getD undef = y78 at ea
    generalize a.tmps[79]?.getD undef = y79 at ea
    clear hsz
    subst ea
    have bx : Ex wr w2 := Ex.trans (show Ex wr wr.drew from (Below.refl _ _).drew) hx
    unfold wpOp
    simp only [List.getElem?_toArray, List.getElem?_cons_zero, List.getElem?_cons_succ]
    rw [if_pos (by rfl)]
    left
    have z1 := LB.ext Z11.out bx
    have bw2 : Ex w w2 := Ex.trans bw bx
    have A' := LB.ext A.out bx
    have G7' := LB.ext G7.out bx
    have G9' := LB.ext G9.out bx
    have Zo' := LB.ext Z12.out bx
    have JA' := Pt.In.ext JA.out bx
    have JB' := Pt.In.ext JB.out bx
    have ll := lt11.out
    have hg12 := HG12.out
    refine wp_st45 _ _ g11 (v + 1) 0 p80 nilP rfl rfl rfl z1 (fun w3 hd ho => ?_)
    have JX := Lib.hid (i80.st ho z1)
    replace A := Lib.hid (ho.lb A' (by omega))
    replace G7 := Lib.hid (ho.lb G7' (by omega))
    replace G9 := Lib.hid (ho.lb G9' (by omega))
    replace Z12 := Lib.hid (ho.lb Zo' (by omega))
    replace JA := Lib.hid (JA'.st ho z1)
    replace JB := Lib.hid (JB'.st ho z1)
    have bw' : Ex w w3 := ho.below w.heap.size (by have := wl.out; omega) w bw2
    have Z11n : Hid (LB w3 g11 (v + 1) p80) := Lib.hid hd
    clear bw bx z1 bw2 A' G7' G9' Zo' JA' JB' ll hg12 hd ho i80 Z11 hx
    have bw := bw'
    have Z11 := Z11n
    clear bw' Z11n
    obtain ⟨rx, hrx⟩ : ∃ r, r = p80 := ⟨_, rfl⟩
    rw [← hrx] at JX Z11
    have HRX := Lib.hid (show rx.l = xl by rw [hrx]; exact l80)
    clear l80
    generalize w3 = wr at *
    have f0 : wr.cell? ⟨B, 0, none⟩ = some (.int .u64 v) := Bk.cell A.out 0
    have f1 : wr.cell? ⟨B, 1, none⟩ = some (.slice p.ad n p.cap) := by rw [← C1.out]; exact Bk.cell A.out 1
    have f2 : wr.cell? ⟨g11, 0, none⟩ = some (.int .u64 (v + 1)) := Bk.cell Z11.out 0
    have f3 : wr.cell? ⟨g12, 0, none⟩ = some (.int .u64 (0)) := Bk.cell Z12.out 0
    have f4 : wr.cell? ⟨g7, 0, none⟩ = some (.int .u64 (v + 1)) := Bk.cell G7.out 0
    have f5 : wr.cell? ⟨g9, 0, none⟩ = some (.int .u64 (0)) := Bk.cell G9.out 0
    obtain ⟨av, hav⟩ : ∃ x, x = ra.V := ⟨_, rfl⟩
    obtain ⟨bv, hbv⟩ : ∃ x, x = rb.V := ⟨_, rfl⟩
    obtain ⟨xvv, hxv⟩ : ∃ x, x = Pt.V rx := ⟨_, rfl⟩
    obtain ⟨yvv, hyv⟩ : ∃ x, x = Pt.V nilP := ⟨_, rfl⟩
    have f6 : wr.cell? ⟨g7, 1, none⟩ = some av := by rw [hav]; exact Bk.cell G7.out 1
    have f7 : wr.cell? ⟨g11, 1, none⟩ = some xvv := by rw [hxv]; exact Bk.cell Z11.out 1
    have f8 := Lib.hid (show wr.cell? ⟨g9, 1, none⟩ = some bv by rw [hbv]; exact Bk.cell G9.out 1)
    have f9 := Lib.hid (show wr.cell? ⟨g12, 1, none⟩ = some yvv by rw [hyv]; exact Bk.cell Z12.out 1)
    have L7 := Lib.hid (Bk.lt G9.out)
    have L12 := Lib.hid (Bk.lt Z12.out)
    have s1 := fun W (h : Ex wr W) => sameI_any ra rx W (Pt.In.ext JA.out h) (Pt.In.ext JX.out h) (by rw [HRA.out]; have := HXL.out; omega) (by rw [HRX.out]; have := HXL.out; omega)
    have s2 := fun W (h : Ex wr W) => sameI_any rb nilP W (Pt.In.ext JB.out h) (nil_in _) (by rw [HRB.out]; have := HYL.out; omega) (by show 0 ≤ _; omega)
    rw [← hav, ← hxv, show decide (ra.l = Pt.l rx) = true from decide_eq_true (by rw [HRA.out]; rw [HRX.out])] at s1
    rw [← hbv, ← hyv, show decide (rb.l = Pt.l nilP) = true from decide_eq_true (by rw [HRB.out]; exact YNIL.out)] at s2
    have S1 := Lib.hid s1
    have S2 := Lib.hid s2
    clear hav hbv hxv hyv s1 s2
    go_wp2_with (first | (with_reducible refine stop_load45 ?_) | (with_reducible refine stop_store45 ?_))
    refine (S1.out _ (Ex.refl _)).mono ?_
    rintro e wa ⟨rfl, xa⟩
    have f8' : wa.cell? ⟨g9, 1, none⟩ = some bv := (Below.cell (p := ⟨g9, 1, none⟩) xa L7.out).trans f8.out
    have f9' : wa.cell? ⟨g12, 1, none⟩ = some yvv := (Below.cell (p := ⟨g12, 1, none⟩) xa L12.out).trans f9.out
    clear f0 f1 f2 f3 f4 f5 f6 f7
    go_wp2_with (first | (with_reducible refine stop_load45 ?_) | (with_reducible refine stop_store45 ?_))
    refine (S2.out _ xa).mono ?_
    rintro e wb ⟨rfl, xb⟩
    have xab := Ex.trans xa xb
    replace A := Lib.hid (LB.ext A.out xab)
    replace bw := Ex.trans bw xab
    clear xa xb xab f8' f9' S1 S2
    go_wp2_with (first | (with_reducible refine stop_load45 ?_) | (with_reducible refine stop_store45 ?_))
    (with_reducible refine ⟨?_⟩); (with_reducible refine at_any ?_ ?_); (focus go_simp); refine fun K hK => wp_ld45 _ B v p rfl rfl A.out (hK _ _ ?_)
    clear hK
    go_wp2_with (first | (with_reducible refine stop_load45 ?_) | (with_reducible refine stop_store45 ?_))
    refine (CH.out _ bw).mono ?_
    rintro e wc ⟨rfl, xc⟩
    replace A := Lib.hid (LB.ext A.out xc)
    replace bw := Ex.trans bw xc
    clear xc CH
    go_wp2_with (first | (with_reducible refine stop_load45 ?_) | (with_reducible refine stop_store45 ?_))
    (with_reducible refine ⟨?_⟩); (with_reducible refine at_any ?_ ?_); (focus go_simp); refine fun K hK => wp_ld45 _ B v p rfl rfl A.out (hK _ _ ?_)
    clear hK
    go_wp2_with (first | (with_reducible refine stop_load45 ?_) | (with_reducible refine stop_store45 ?_))
    refine (CM.out _ bw).mono ?_
    rintro e wd ⟨rfl, xd⟩
    replace A := Lib.hid (LB.ext A.out xd)
    replace bw := Ex.trans bw xd
    clear xd CM
    go_wp2_with (first | (with_reducible refine stop_load45 ?_) | (with_reducible refine stop_store45 ?_))
    (with_reducible refine ⟨?_⟩); (with_reducible refine at_any ?_ ?_); (focus go_simp); refine fun K hK => wp_ld45 _ B v p rfl rfl A.out (hK _ _ ?_)
    clear hK
    go_wp2_with (first | (with_reducible refine stop_load45 ?_) | (with_reducible refine stop_store45 ?_))
    (with_reducible refine ⟨?_⟩); (with_reducible refine at_any ?_ ?_); (focus go_simp); refine fun K hK => wp_ld45 _ B v p rfl rfl A.out (hK _ _ ?_)
    clear hK
    go_wp2_with (first | (with_reducible refine stop_load45 ?_) | (with_reducible refine stop_store45 ?_))
    refine (CR.out _ bw).mono ?_
    rintro e we ⟨rfl, xe⟩
    replace bw := Ex.trans bw xe
    go_wp2_with (first | (with_reducible refine stop_load45 ?_) | (with_reducible refine stop_store45 ?_))
    go_ret
    exact ⟨rfl, bw⟩
end Go.Proofs.Ytgoiidpcdifojaa
