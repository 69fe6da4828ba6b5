/- same of chapter 14's statements, one way of it -/
import Derived.Test.YtgoiidpcdifojaaRoR
namespace Go.Proofs.Ytgoiidpcdifojaa
open Go.RowKit
set_option maxHeartbeats 8000000 in
set_option maxRecDepth 100000 in
theorem same_big (v : Int) (kk : Int) (p : Pt) (w : World) (hp : p.In w w.heap.size) (hL : p.l.length ≤ 9223372036854775807) (xl yl : List Int) (hr : rightB v p.l = true) (fit : Fit v p.l kk false (0) xl (0) yl) (hxl : xl.length ≤ 8) (hyl : yl.length ≤ 8) (hx0 : xl = []) (hy0 : yl = []) (hk : 8 ≤ kk) :
    Calls Try.prog 24 #[LV v p, .int .i64 kk] w fun e w' => e = .returned (.bool true) ∧ Below w.heap.size w w' := by
  have C48 := Lib.hid (fun W (h : Ex w W) => (show Calls Try.prog 48 #[LV v p] W fun e w' => e = .returned (.bool true) ∧ Below W.heap.size W w' by rw [← hr]; exact rright_any v p W (hp.ext h)))
  have C49 := Lib.hid (fun W (h : Ex w W) => (show Calls Try.prog 49 #[LV v p] W fun e w' => e = .returned (.bool true) ∧ Below W.heap.size W w' by rw [← hr]; exact right_any v p W (hp.ext h)))
  have XNIL := Lib.hid hx0
  have YNIL := Lib.hid hy0
  clear hx0 hy0
  have CW := Lib.hid (fun W (h : Ex w W) => (show Calls Try.prog 31 #[LV v p, .int .i64 kk] W (LvPost (0) xl false W) by
    have := with_any v p kk W (hp.ext h); rw [fit.wv, fit.wl, fit.wb] at this
    rwa [show decide ((0 : Int) < 0) = false by rfl] at this))
  have CL := Lib.hid (fun W (h : Ex w W) => (show Calls Try.prog 35 #[LV v p, .int .i64 kk] W (LvPost (0) yl false W) by
    have := less_any' v p kk W (hp.ext h); rw [fit.lv, fit.ll, fit.lb] at this
    rwa [show decide ((0 : Int) < 0) = false by rfl] at this))
  have CH := Lib.hid (fun W (h : Ex w W) => (show Calls Try.prog 36 #[LV v p, .int .i64 kk] W fun e w' => e = .returned (.bool false) ∧ Below W.heap.size W w' by rw [← fit.has]; exact has_any v p kk W (hp.ext h)))
  have CM := Lib.hid (fun W (h : Ex w W) => (show Calls Try.prog 34 #[LV v p] W fun e w' => e = .returned (.int .i64 ((p.l.length : Int) / 2 + 1)) ∧ Below W.heap.size W w' by
    have := maj_any v p W (hp.ext h); unfold majI at this; rw [hr] at this; exact this))
  have CR := Lib.hid (fun W (h : Ex w W) => (show Calls Try.prog 29 #[LV v p, LV v p] W fun e w' => e = .returned (.bool true) ∧ Below W.heap.size W w' by
    have := rsame_any v v p p W (hp.ext h) (hp.ext h) hL hL; rwa [sameB_self] at this))
  have HXL := Lib.hid hxl
  have HYL := Lib.hid hyl
  have h8 : true = true → p.l.length ≤ 8 := fun h => (right_len (hr.trans h)).2.2.2.1
  obtain ⟨n, hn⟩ : ∃ n, n = p.l.length := ⟨_, rfl⟩
  rw [← hn] at CM h8
  have HNN := Lib.hid hn
  have C1 := Lib.hid (show p.V = .slice p.ad n p.cap by unfold Pt.V; rw [hn])
  have n8 : (n : Int) ≤ 8 := by have := h8 rfl; omega
  have b0 : Hid (LB (w.alloc (.cells #[.int .u64 v, p.V] 45)) w.heap.size v p) := Lib.hid (Bk.new rfl _ _)
  have BW := Lib.hid (show Ex w (w.alloc (.cells #[.int .u64 v, p.V] 45)) from (Below.refl _ _).alloc (Nat.le_refl _) _)
  rw [show (Calls Try.prog 24 #[LV v p, .int .i64 kk] w) = (Calls Try.prog 24 #[.agg #[.int .u64 v, p.V], .int .i64 kk] w) from rfl]
  clear fit hr hp hL hxl hyl h8 hn
  have hk0 : 0 ≤ kk := by omega
  go_enter Try.func24, Try.ntmps24
  go_wp2_with (first | (with_reducible refine stop_load45 ?_) | (with_reducible refine stop_store45 ?_))
  have bw := BW.out
  generalize hw1 : w.alloc (.cells #[.int .u64 v, p.V] 45) = w1 at *
  obtain ⟨B, hB⟩ : ∃ B, B = w.heap.size := ⟨_, rfl⟩
  rw [← hB] at b0 ⊢
  have A := b0
  have HBw := Lib.hid hB
  clear hw1 hB BW b0
  (with_reducible refine ⟨?_⟩); (with_reducible refine at_any ?_ ?_); (focus go_simp); refine fun K hK => wp_ld45 _ B v p rfl rfl A.out (hK _ _ ?_)
  clear hK
  go_wp2_with (first | (with_reducible refine stop_load45 ?_) | (with_reducible refine stop_store45 ?_))
  refine (C48.out _ bw).mono ?_
  rintro e w2 ⟨rfl, x2⟩
  replace A := Lib.hid (LB.ext A.out x2)
  replace bw := Ex.trans bw x2
  clear x2 C48
  go_wp2_with (first | (with_reducible refine stop_load45 ?_) | (with_reducible refine stop_store45 ?_))
  (with_reducible refine ⟨?_⟩); (with_reducible refine at_any ?_ ?_); (focus go_simp); refine fun K hK => wp_ld45 _ B v p rfl rfl A.out (hK _ _ ?_)
  clear hK
  go_wp2_with (first | (with_reducible refine stop_load45 ?_) | (with_reducible refine stop_store45 ?_))
  refine (C49.out _ bw).mono ?_
  rintro e w3 ⟨rfl, x3⟩
  replace A := Lib.hid (LB.ext A.out x3)
  replace bw := Ex.trans bw x3
  clear x3 C49
  go_wp2_with (first | (with_reducible refine stop_load45 ?_) | (with_reducible refine stop_store45 ?_))
  (with_reducible refine ⟨?_⟩); (with_reducible refine at_not ?_ ?_); (focus go_simp)
  go_wp2_with (first | (with_reducible refine stop_load45 ?_) | (with_reducible refine stop_store45 ?_))
  (with_reducible refine ⟨?_⟩); (with_reducible refine at_any ?_ ?_); (focus go_simp); refine fun K hK => wp_ld45 _ B v p rfl rfl A.out (hK _ _ ?_)
  clear hK
  go_wp2_with (first | (with_reducible refine stop_load45 ?_) | (with_reducible refine stop_store45 ?_))
  refine (CW.out _ bw).mono ?_
  rintro e w5 ⟨ra, rfl, hra, i5, x5⟩
  go_wp2_with (first | (with_reducible refine stop_load45 ?_) | (with_reducible refine stop_store45 ?_))
  (with_reducible refine ⟨?_⟩); (with_reducible refine at_any ?_ ?_); (focus go_simp); refine fun K hK => wp_st45 _ _ w5.heap.size (0) 0 ra nilP rfl rfl rfl (Bk.new rfl _ _) (fun w6 hd ho => hK _ _ ?_)
  have x56 := Ex.trans x5 ho.ex
  have JA := Lib.hid ((i5.ext ((Below.refl _ _).alloc (Nat.le_refl _) _)).st (n := 0) (q := nilP) ho (Bk.new rfl _ _))
  replace A := Lib.hid (LB.ext A.out x56)
  replace bw := Ex.trans bw x56
  generalize w5.heap.size = g7 at hd ⊢
  have G7 := Lib.hid hd
  have HRA := Lib.hid hra
  clear hK ho hd x5 x56 i5 CW hra
  go_wp2_with (first | (with_reducible refine stop_load45 ?_) | (with_reducible refine stop_store45 ?_))
  (with_reducible refine ⟨?_⟩); (with_reducible refine at_any ?_ ?_); (focus go_simp); refine fun K hK => wp_ld45 _ B v p rfl rfl A.out (hK _ _ ?_)
  clear hK
  go_wp2_with (first | (with_reducible refine stop_load45 ?_) | (with_reducible refine stop_store45 ?_))
  refine (CL.out _ bw).mono ?_
  rintro e w7 ⟨rb, rfl, hrb, i7, x7⟩
  go_wp2_with (first | (with_reducible refine stop_load45 ?_) | (with_reducible refine stop_store45 ?_))
  (with_reducible refine ⟨?_⟩); (with_reducible refine at_any ?_ ?_); (focus go_simp); refine fun K hK => wp_st45 _ _ w7.heap.size (0) 0 rb nilP rfl rfl rfl (Bk.new rfl _ _) (fun w8 hd ho => hK _ _ ?_)
  have x78 := Ex.trans x7 ho.ex
  have JB := Lib.hid ((i7.ext ((Below.refl _ _).alloc (Nat.le_refl _) _)).st (n := 0) (q := nilP) ho (Bk.new rfl _ _))
  replace A := Lib.hid (LB.ext A.out x78)
  replace G7 := Lib.hid (LB.ext G7.out x78)
  replace JA := Lib.hid (Pt.In.ext JA.out x78)
  replace bw := Ex.trans bw x78
  generalize w7.heap.size = g9 at hd ⊢
  have G9 := Lib.hid hd
  have HRB := Lib.hid hrb
  clear hK ho hd x7 x78 i7 CL hrb
  go_wp2_with (first | (with_reducible refine stop_load45 ?_) | (with_reducible refine stop_store45 ?_))
  have xz : Ex w8 ((w8.alloc (.cells #[.int .u64 0, .slice none 0 0] 45)).alloc (.cells #[.int .u64 0, .slice none 0 0] 45)) := ((Below.refl _ _).alloc (Nat.le_refl _) _).alloc (by simp) _
  have z1 : LB ((w8.alloc (.cells #[.int .u64 0, .slice none 0 0] 45)).alloc (.cells #[.int .u64 0, .slice none 0 0] 45)) w8.heap.size 0 nilP := (Bk.new rfl _ _).more _
  have z2 : LB ((w8.alloc (.cells #[.int .u64 0, .slice none 0 0] 45)).alloc (.cells #[.int .u64 0, .slice none 0 0] 45)) (w8.heap.size + 1) 0 nilP := Bk.new (by simp) _ _
  (with_reducible refine ⟨?_⟩); (with_reducible refine at_any ?_ ?_); (focus go_simp); refine fun K hK => wp_st45 _ _ w8.heap.size 0 0 nilP nilP rfl rfl rfl z1 (fun w9 hd ho => hK _ _ ?_)
  have x89 : Ex w8 w9 := ho.below _ (Nat.le_refl _) _ xz
  have z3 := Lib.hid (ho.lb z2 (by omega))
  obtain ⟨g11, hg⟩ : ∃ g, g = w8.heap.size := ⟨_, rfl⟩
  have lt11 := Lib.hid (show B < g11 ∧ g7 < g11 ∧ g9 < g11 from ⟨by rw [hg]; exact Bk.lt A.out, by rw [hg]; exact Bk.lt G7.out, by rw [hg]; exact Bk.lt G9.out⟩)
  replace A := Lib.hid (LB.ext A.out x89)
  replace G7 := Lib.hid (LB.ext G7.out x89)
  replace G9 := Lib.hid (LB.ext G9.out x89)
  replace JA := Lib.hid (Pt.In.ext JA.out x89)
  replace JB := Lib.hid (Pt.In.ext JB.out x89)
  replace bw := Ex.trans bw x89
  have wl := Lib.hid (show w.heap.size ≤ g11 by rw [← HBw.out]; exact Nat.le_of_lt lt11.out.1)
  rw [← hg] at hd z3 ⊢
  have Z11 := Lib.hid hd
  clear hK ho hd xz z1 z2 x89 hg
  go_wp2_with (first | (with_reducible refine stop_load45 ?_) | (with_reducible refine stop_store45 ?_))
  (with_reducible refine ⟨?_⟩); (with_reducible refine at_any ?_ ?_); (focus go_simp); refine fun K hK => wp_st45 _ _ (g11 + 1) 0 0 nilP nilP rfl rfl rfl z3.out (fun w10 hd ho => hK _ _ ?_)
  have ll := lt11.out
  replace A := Lib.hid (ho.lb A.out (by omega))
  replace G7 := Lib.hid (ho.lb G7.out (by omega))
  replace G9 := Lib.hid (ho.lb G9.out (by omega))
  replace Z11 := Lib.hid (ho.lb Z11.out (by omega))
  replace JA := Lib.hid (Pt.In.st JA.out ho z3.out)
  replace JB := Lib.hid (Pt.In.st JB.out ho z3.out)
  replace bw : Ex w w10 := ho.below w.heap.size (by have := wl.out; omega) w bw
  have Z12 := Lib.hid hd
  clear hK ho hd z3 ll
  generalize w10 = wr at *
  obtain ⟨g12, hg12⟩ : ∃ g, g = g11 + 1 := ⟨_, rfl⟩
  rw [← hg12] at Z12 ⊢
  have HG12 := Lib.hid hg12
  clear hg12
  have f0 : wr.cell? ⟨B, 0, none⟩ = some (.int .u64 v) := Bk.cell A.out 0
  have f1 : wr.cell? ⟨B, 1, none⟩ = some (.slice p.ad n p.cap) := by rw [← C1.out]; exact Bk.cell A.out 1
  have f2 : wr.cell? ⟨g11, 0, none⟩ = some (.int .u64 (0)) := Bk.cell Z11.out 0
  have f3 : wr.cell? ⟨g12, 0, none⟩ = some (.int .u64 (0)) := Bk.cell Z12.out 0
  have f4 : wr.cell? ⟨g7, 0, none⟩ = some (.int .u64 (0)) := Bk.cell G7.out 0
  have f5 : wr.cell? ⟨g9, 0, none⟩ = some (.int .u64 (0)) := Bk.cell G9.out 0
  obtain ⟨av, hav⟩ : ∃ x, x = ra.V := ⟨_, rfl⟩
  obtain ⟨bv, hbv⟩ : ∃ x, x = rb.V := ⟨_, rfl⟩
  obtain ⟨xvv, hxv⟩ : ∃ x, x = Pt.V nilP := ⟨_, rfl⟩
  obtain ⟨yvv, hyv⟩ : ∃ x, x = Pt.V nilP := ⟨_, rfl⟩
  have f6 : wr.cell? ⟨g7, 1, none⟩ = some av := by rw [hav]; exact Bk.cell G7.out 1
  have f7 : wr.cell? ⟨g11, 1, none⟩ = some xvv := by rw [hxv]; exact Bk.cell Z11.out 1
  have f8 := Lib.hid (show wr.cell? ⟨g9, 1, none⟩ = some bv by rw [hbv]; exact Bk.cell G9.out 1)
  have f9 := Lib.hid (show wr.cell? ⟨g12, 1, none⟩ = some yvv by rw [hyv]; exact Bk.cell Z12.out 1)
  have L7 := Lib.hid (Bk.lt G9.out)
  have L12 := Lib.hid (Bk.lt Z12.out)
  have s1 := fun W (h : Ex wr W) => sameI_any ra nilP W (Pt.In.ext JA.out h) (nil_in _) (by rw [HRA.out]; have := HXL.out; omega) (by show 0 ≤ _; omega)
  have s2 := fun W (h : Ex wr W) => sameI_any rb nilP W (Pt.In.ext JB.out h) (nil_in _) (by rw [HRB.out]; have := HYL.out; omega) (by show 0 ≤ _; omega)
  rw [← hav, ← hxv, show decide (ra.l = Pt.l nilP) = true from decide_eq_true (by rw [HRA.out]; exact XNIL.out)] at s1
  rw [← hbv, ← hyv, show decide (rb.l = Pt.l nilP) = true from decide_eq_true (by rw [HRB.out]; exact YNIL.out)] at s2
  have S1 := Lib.hid s1
  have S2 := Lib.hid s2
  clear hav hbv hxv hyv s1 s2
  go_wp2_with (first | (with_reducible refine stop_load45 ?_) | (with_reducible refine stop_store45 ?_))
  refine (S1.out _ (Ex.refl _)).mono ?_
  rintro e wa ⟨rfl, xa⟩
  have f8' : wa.cell? ⟨g9, 1, none⟩ = some bv := (Below.cell (p := ⟨g9, 1, none⟩) xa L7.out).trans f8.out
  have f9' : wa.cell? ⟨g12, 1, none⟩ = some yvv := (Below.cell (p := ⟨g12, 1, none⟩) xa L12.out).trans f9.out
  clear f0 f1 f2 f3 f4 f5 f6 f7
  go_wp2_with (first | (with_reducible refine stop_load45 ?_) | (with_reducible refine stop_store45 ?_))
  refine (S2.out _ xa).mono ?_
  rintro e wb ⟨rfl, xb⟩
  have xab := Ex.trans xa xb
  replace A := Lib.hid (LB.ext A.out xab)
  replace bw := Ex.trans bw xab
  clear xa xb xab f8' f9' S1 S2
  go_wp2_with (first | (with_reducible refine stop_load45 ?_) | (with_reducible refine stop_store45 ?_))
  (with_reducible refine ⟨?_⟩); (with_reducible refine at_any ?_ ?_); (focus go_simp); refine fun K hK => wp_ld45 _ B v p rfl rfl A.out (hK _ _ ?_)
  clear hK
  go_wp2_with (first | (with_reducible refine stop_load45 ?_) | (with_reducible refine stop_store45 ?_))
  refine (CH.out _ bw).mono ?_
  rintro e wc ⟨rfl, xc⟩
  replace A := Lib.hid (LB.ext A.out xc)
  replace bw := Ex.trans bw xc
  clear xc CH
  go_wp2_with (first | (with_reducible refine stop_load45 ?_) | (with_reducible refine stop_store45 ?_))
  (with_reducible refine ⟨?_⟩); (with_reducible refine at_any ?_ ?_); (focus go_simp); refine fun K hK => wp_ld45 _ B v p rfl rfl A.out (hK _ _ ?_)
  clear hK
  go_wp2_with (first | (with_reducible refine stop_load45 ?_) | (with_reducible refine stop_store45 ?_))
  refine (CM.out _ bw).mono ?_
  rintro e wd ⟨rfl, xd⟩
  replace A := Lib.hid (LB.ext A.out xd)
  replace bw := Ex.trans bw xd
  clear xd CM
  go_wp2_with (first | (with_reducible refine stop_load45 ?_) | (with_reducible refine stop_store45 ?_))
  (with_reducible refine ⟨?_⟩); (with_reducible refine at_any ?_ ?_); (focus go_simp); refine fun K hK => wp_ld45 _ B v p rfl rfl A.out (hK _ _ ?_)
  clear hK
  go_wp2_with (first | (with_reducible refine stop_load45 ?_) | (with_reducible refine stop_store45 ?_))
  (with_reducible refine ⟨?_⟩); (with_reducible refine at_any ?_ ?_); (focus go_simp); refine fun K hK => wp_ld45 _ B v p rfl rfl A.out (hK _ _ ?_)
  clear hK
  go_wp2_with (first | (with_reducible refine stop_load45 ?_) | (with_reducible refine stop_store45 ?_))
  refine (CR.out _ bw).mono ?_
  rintro e we ⟨rfl, xe⟩
  replace bw := Ex.trans bw xe
  go_wp2_with (first | (with_reducible refine stop_load45 ?_) | (with_reducible refine stop_store45 ?_))
  go_ret
  exact ⟨rfl, bw⟩
end Go.Proofs.Ytgoiidpcdifojaa
