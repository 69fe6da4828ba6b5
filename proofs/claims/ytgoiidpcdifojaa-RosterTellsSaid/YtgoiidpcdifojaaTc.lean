/- walks: the law RosterTells -/
import Derived.Test.YtgoiidpcdifojaaTb
namespace Go.Proofs.Ytgoiidpcdifojaa
open Go.RowKit
theorem same_l (v kk : Int) (p : Pt) (w : World) (hp : p.In w w.heap.size) (hL : p.l.length ≤ 9223372036854775807) :
    Calls Try.prog 24 #[LV v p, .int .i64 kk] w fun e w' => e = .returned (.bool true) ∧ Below w.heap.size w w' :=
  same14 v kk p w hp hL fun h => ⟨_, (right_mem8 h).1, (right_mem8 h).2⟩
set_option maxHeartbeats 8000000 in
set_option maxRecDepth 100000 in
theorem tells14 (va vb : Int) (p q : Pt) (x2 x3 x4 v : Int) (hv0 : 0 ≤ v) (hv1 : v < 18446744073709551616) (w : World) (hp : p.In w w.heap.size) (hq : q.In w w.heap.size) (hL : p.l.length ≤ 9223372036854775807) (hL2 : q.l.length ≤ 9223372036854775807) :
    Calls Try.prog 7 #[LV va p, LV vb q, .int .i64 x2, .int .i64 x3, .int .i64 x4, .int .u64 v] w fun e w' => e = .returned (.bool true) ∧ Below w.heap.size w w' := by
  obtain ⟨n, hn, _, e2⟩ := and_mask x2 255 (by decide)
  obtain ⟨c, hc, _, e3⟩ := and_mask x3 255 (by decide)
  obtain ⟨z, hz, hz1, e1⟩ := and_mask x3 1 (by decide)
  obtain ⟨k, hk, hk7, e7⟩ := and_mask x4 7 (by decide)
  have hk8 : k < 8 := by have := Nat.and_le_right (n := k) (m := 7); omega
  have hzz : z ≤ 1 := by have := Nat.and_le_right (n := z) (m := 1); omega
  have e2 : bits .and .i64 x2 255 = (n : Int) := e2
  have e3 : bits .and .i64 x3 255 = (c : Int) := e3
  have e1 : bits .and .i64 x3 1 = (z : Int) := e1
  have e7 : bits .and .i64 x4 7 = (k : Int) := e7
  have hp2 : 2 ^ k < 2 ^ 8 := Nat.pow_lt_pow_right (by decide) hk8
  have w7 : wrap64 ((2 : Int) ^ k) = (2 : Int) ^ k := by
    have h3 : ((2 : Int) ^ k) = ((2 ^ k : Nat) : Int) := by norm_cast
    rw [h3]
    generalize 2 ^ k = z at hp2
    exact IntWalk.wrap64_in _ ⟨by omega, by omega⟩
  obtain ⟨y, hy⟩ : ∃ y, y = n ^^^ 2 ^ k := ⟨_, rfl⟩
  have hy256 : y < 256 := by rw [hy]; exact Nat.xor_lt_two_pow (n := 8) hn hp2
  have ex : bits .xor .i64 (n : Int) ((2 : Int) ^ k) = (y : Int) := by
    rw [show ((2 : Int) ^ k) = ((2 ^ k : Nat) : Int) by norm_cast, hy]; exact xor_nat n (2 ^ k) hn hp2
  obtain ⟨X1, hX1⟩ : ∃ u, u = 1 + v % 5 := ⟨_, rfl⟩
  obtain ⟨Y1, hY1⟩ : ∃ u, u = 1 + v % 5 + (z : Int) := ⟨_, rfl⟩
  obtain ⟨Z1, hZ1⟩ : ∃ u, u = v % 7 := ⟨_, rfl⟩
  have L1 := Lib.hid (fun W => (show Calls Try.prog 25 #[.int .u64 (1 + v % 5), .int .i64 (n : Int)] W (ListPost X1 (mem8 n 8) W) by rw [← hX1]; exact list_any X1 n hn W))
  have L2 := Lib.hid (fun W => (show Calls Try.prog 25 #[.int .u64 (1 + v % 5 + (z : Int)), .int .i64 (y : Int)] W (ListPost Y1 (mem8 y 8) W) by rw [← hY1]; exact list_any Y1 y hy256 W))
  have L3 := Lib.hid (fun W => (show Calls Try.prog 25 #[.int .u64 (v % 7), .int .i64 (c : Int)] W (ListPost Z1 (mem8 c 8) W) by rw [← hZ1]; exact list_any Z1 c hc W))
  have JP0 := Lib.hid (fun W (h : Ex w W) => hp.ext h)
  have JQ0 := Lib.hid (fun W (h : Ex w W) => hq.ext h)
  have HLP := Lib.hid hL
  have HLQ := Lib.hid hL2
  have K0 := Lib.hid known14_any
  have z1 : (z : Int) ≤ 1 := by omega
  have k1 : (k : Int) < 8 := by omega
  have b0 : Hid (LB ((w.alloc (.cells #[.int .u64 va, p.V] 45)).alloc (.cells #[.int .u64 vb, q.V] 45)) w.heap.size va p) := Lib.hid ((Bk.new rfl _ _).more _)
  have b1 : Hid (LB ((w.alloc (.cells #[.int .u64 va, p.V] 45)).alloc (.cells #[.int .u64 vb, q.V] 45)) (w.heap.size + 1) vb q) := Lib.hid (Bk.new (by simp) _ _)
  have BW := Lib.hid (show Ex w ((w.alloc (.cells #[.int .u64 va, p.V] 45)).alloc (.cells #[.int .u64 vb, q.V] 45)) from ((Below.refl _ _).alloc (Nat.le_refl _) _).alloc (by simp) _)
  rw [show (Calls Try.prog 7 #[LV va p, LV vb q, .int .i64 x2, .int .i64 x3, .int .i64 x4, .int .u64 v] w) = (Calls Try.prog 7 #[.agg #[.int .u64 va, p.V], .agg #[.int .u64 vb, q.V], .int .i64 x2, .int .i64 x3, .int .i64 x4, .int .u64 v] w) from rfl]
  clear hp hq hL hL2 hX1 hY1 hZ1 hy hy256 hn hc hz hz1 hk hk7 hk8 hzz hp2
  go_enter Try.func7, Try.ntmps7
  go_wp2_with (first | (with_reducible refine stop_load45 ?_) | (with_reducible refine stop_store45 ?_))
  have bw := BW.out
  generalize hw1 : (w.alloc (.cells #[.int .u64 va, p.V] 45)).alloc (.cells #[.int .u64 vb, q.V] 45) = w1 at *
  obtain ⟨B, hB⟩ : ∃ B, B = w.heap.size := ⟨_, rfl⟩
  rw [← hB] at b0 b1 ⊢
  have A := b0
  have Bq := b1
  clear hw1 hB BW b0 b1
  refine (L1.out _).mono ?_
  rintro e wa ⟨rx, rfl, hrx, ix, xa⟩
  have JX := Lib.hid ix
  have HRX := Lib.hid hrx
  replace A := Lib.hid (LB.ext A.out xa)
  replace Bq := Lib.hid (LB.ext Bq.out xa)
  replace bw := Ex.trans bw xa
  clear ix hrx xa L1
  go_wp2_with (first | (with_reducible refine stop_load45 ?_) | (with_reducible refine stop_store45 ?_))
  refine (L2.out _).mono ?_
  rintro e wb ⟨ry, rfl, hry, iy, xb⟩
  have JY := Lib.hid iy
  have HRY := Lib.hid hry
  replace A := Lib.hid (LB.ext A.out xb)
  replace Bq := Lib.hid (LB.ext Bq.out xb)
  replace JX := Lib.hid (Pt.In.ext JX.out xb)
  replace bw := Ex.trans bw xb
  clear iy hry xb L2
  go_wp2_with (first | (with_reducible refine stop_load45 ?_) | (with_reducible refine stop_store45 ?_))
  have xz : Ex wb ((wb.alloc (.cells #[.int .u64 0, .slice none 0 0] 45)).alloc (.cells #[.int .u64 0, .slice none 0 0] 45)) := ((Below.refl _ _).alloc (Nat.le_refl _) _).alloc (by simp) _
  have u1 : LB ((wb.alloc (.cells #[.int .u64 0, .slice none 0 0] 45)).alloc (.cells #[.int .u64 0, .slice none 0 0] 45)) wb.heap.size 0 nilP := (Bk.new rfl _ _).more _
  have u2 : LB ((wb.alloc (.cells #[.int .u64 0, .slice none 0 0] 45)).alloc (.cells #[.int .u64 0, .slice none 0 0] 45)) (wb.heap.size + 1) 0 nilP := Bk.new (by simp) _ _
  (with_reducible refine ⟨?_⟩); (with_reducible refine at_any ?_ ?_); (focus go_simp); refine fun K hK => wp_st45 _ _ wb.heap.size X1 0 rx nilP rfl rfl rfl u1 (fun wc hd ho => hK _ _ ?_)
  have xc : Ex wb wc := ho.below _ (Nat.le_refl _) _ xz
  have GX := Lib.hid hd
  have u3 := Lib.hid (ho.lb u2 (by omega))
  have jx := Lib.hid (Pt.In.st (JX.out.ext xz) ho u1)
  have jy := Lib.hid (Pt.In.st (JY.out.ext xz) ho u1)
  clear JX JY
  have JX := jx
  have JY := jy
  clear jx jy
  have hsz := Lib.hid (show wb.heap.size < wc.heap.size by have := Bk.lt GX.out; exact this)
  clear hK ho hd xz u1 u2
  go_wp2_with (first | (with_reducible refine stop_load45 ?_) | (with_reducible refine stop_store45 ?_))
  (with_reducible refine ⟨?_⟩); (with_reducible refine at_any ?_ ?_); (focus go_simp); refine fun K hK => wp_st45 _ _ (wb.heap.size + 1) Y1 0 ry nilP rfl rfl rfl u3.out (fun wd hd ho => hK _ _ ?_)
  have xd : Ex wb wd := ho.below _ (by omega) _ xc
  have GY := Lib.hid hd
  replace GX := Lib.hid (ho.lb GX.out (by omega))
  replace JX := Lib.hid (Pt.In.st JX.out ho u3.out)
  replace JY := Lib.hid (Pt.In.st JY.out ho u3.out)
  replace A := Lib.hid (LB.ext A.out xd)
  replace Bq := Lib.hid (LB.ext Bq.out xd)
  replace bw := Ex.trans bw xd
  obtain ⟨g13, hg13⟩ : ∃ g, g = wb.heap.size := ⟨_, rfl⟩
  rw [← hg13] at GX GY ⊢
  obtain ⟨g14, hg14⟩ : ∃ g, g = g13 + 1 := ⟨_, rfl⟩
  rw [← hg14] at GY ⊢
  clear hK ho hd xc xd u3 hsz hg13 hg14
  go_wp2_with (first | (with_reducible refine stop_load45 ?_) | (with_reducible refine stop_store45 ?_))
  refine (L3.out _).mono ?_
  rintro e we ⟨rz, rfl, hrz, iz, xe⟩
  have HRZ := Lib.hid hrz
  go_wp2_with (first | (with_reducible refine stop_load45 ?_) | (with_reducible refine stop_store45 ?_))
  (with_reducible refine ⟨?_⟩); (with_reducible refine at_any ?_ ?_); (focus go_simp); refine fun K hK => wp_st45 _ _ we.heap.size Z1 0 rz nilP rfl rfl rfl (Bk.new rfl _ _) (fun wf hd ho => hK _ _ ?_)
  have xf := Ex.trans xe ho.ex
  have JZ := Lib.hid ((iz.ext ((Below.refl _ _).alloc (Nat.le_refl _) _)).st (n := 0) (q := nilP) ho (Bk.new rfl _ _))
  replace A := Lib.hid (LB.ext A.out xf)
  replace Bq := Lib.hid (LB.ext Bq.out xf)
  replace GX := Lib.hid (LB.ext GX.out xf)
  replace GY := Lib.hid (LB.ext GY.out xf)
  replace JX := Lib.hid (Pt.In.ext JX.out xf)
  replace JY := Lib.hid (Pt.In.ext JY.out xf)
  replace bw := Ex.trans bw xf
  generalize we.heap.size = g15 at hd ⊢
  have GZ := Lib.hid hd
  clear hK ho hd xe xf iz hrz L3
  go_wp2_with (first | (with_reducible refine stop_load45 ?_) | (with_reducible refine stop_store45 ?_))
  (with_reducible refine ⟨?_⟩); (with_reducible refine at_any ?_ ?_); (focus go_simp); refine fun K hK => wp_ld45 _ g13 X1 rx rfl rfl GX.out (hK _ _ ?_)
  clear hK
  go_wp2_with (first | (with_reducible refine stop_load45 ?_) | (with_reducible refine stop_store45 ?_))
  (with_reducible refine ⟨?_⟩); (with_reducible refine at_any ?_ ?_); (focus go_simp); refine fun K hK => wp_ld45 _ g14 Y1 ry rfl rfl GY.out (hK _ _ ?_)
  clear hK
  go_wp2_with (first | (with_reducible refine stop_load45 ?_) | (with_reducible refine stop_store45 ?_))
  have caf := after_any X1 Y1 rx ry wf JX.out JY.out
  rw [← fol_after] at caf
  have CAF := Lib.hid caf
  clear caf
  refine CAF.out.mono ?_
  rintro e wr ⟨rfl, xg⟩
  replace A := Lib.hid (LB.ext A.out xg)
  replace Bq := Lib.hid (LB.ext Bq.out xg)
  replace GX := Lib.hid (LB.ext GX.out xg)
  replace GY := Lib.hid (LB.ext GY.out xg)
  replace GZ := Lib.hid (LB.ext GZ.out xg)
  replace JX := Lib.hid (Pt.In.ext JX.out xg)
  replace JY := Lib.hid (Pt.In.ext JY.out xg)
  replace JZ := Lib.hid (Pt.In.ext JZ.out xg)
  replace bw := Ex.trans bw xg
  clear xg CAF
  have LX := Lib.hid (show rx.l.length ≤ 9223372036854775807 by rw [HRX.out]; exact Nat.le_trans (mem8_len n 8) (by decide))
  have LY := Lib.hid (show ry.l.length ≤ 9223372036854775807 by rw [HRY.out]; exact Nat.le_trans (mem8_len y 8) (by decide))
  have LZ := Lib.hid (show rz.l.length ≤ 9223372036854775807 by rw [HRZ.out]; exact Nat.le_trans (mem8_len c 8) (by decide))
  have S1 := Lib.hid (fun W (h : Ex wr W) => same_l va x4 p W (JP0.out W (Ex.trans bw h)) HLP.out)
  have S2 := Lib.hid (fun W (h : Ex wr W) => same_l X1 x4 rx W (Pt.In.ext JX.out h) LX.out)
  have S3 := Lib.hid (fun W (h : Ex wr W) => same_l Z1 (k : Int) rz W (Pt.In.ext JZ.out h) LZ.out)
  have F1 := Lib.hid (fun W (h : Ex wr W) => follows_any X1 Y1 rx ry W (Pt.In.ext JX.out h) (Pt.In.ext JY.out h) LY.out)
  have F2 := Lib.hid (fun W (h : Ex wr W) => follows_any va vb p q W (JP0.out W (Ex.trans bw h)) (JQ0.out W (Ex.trans bw h)) HLQ.out)
  have F2A := Lib.hid (fun W (h : Ex wr W) => (show Calls Try.prog 27 #[LV va p, LV vb q] W fun e w' => e = .returned (.bool (followsB va p.l vb q.l)) ∧ Below W.heap.size W w' by
    rw [fol_after]; exact after_any va vb p q W (JP0.out W (Ex.trans bw h)) (JQ0.out W (Ex.trans bw h))))
  have F3 := Lib.hid (fun W (h : Ex wr W) => follows_any X1 Z1 rx rz W (Pt.In.ext JX.out h) (Pt.In.ext JZ.out h) LZ.out)
  have F3A := Lib.hid (fun W (h : Ex wr W) => (show Calls Try.prog 27 #[LV X1 rx, LV Z1 rz] W fun e w' => e = .returned (.bool (followsB X1 rx.l Z1 rz.l)) ∧ Below W.heap.size W w' by
    rw [fol_after]; exact after_any X1 Z1 rx rz W (Pt.In.ext JX.out h) (Pt.In.ext JZ.out h)))
  have SM0 := fun W (h : Ex wr W) => rsame_any X1 Z1 rx rz W (Pt.In.ext JX.out h) (Pt.In.ext JZ.out h) LX.out LZ.out
  have SI0 := fun W (h : Ex wr W) => sameI_any rx rz W (Pt.In.ext JX.out h) (Pt.In.ext JZ.out h) LX.out LZ.out
  have KN := Lib.hid (fun W (_ : Ex wr W) => K0.out W)
  generalize followsB X1 rx.l Y1 ry.l = fxy at *
  generalize followsB va p.l vb q.l = flm at *
  generalize followsB X1 rx.l Z1 rz.l = fxz at *
  unfold sameB at SM0
  generalize decide (rx.l = rz.l) = sq at *
  obtain ⟨xv, hxv⟩ : ∃ x, x = rx.V := ⟨_, rfl⟩
  obtain ⟨zv, hzv⟩ : ∃ x, x = rz.V := ⟨_, rfl⟩
  rw [← hxv, ← hzv] at SI0
  have SI := Lib.hid SI0
  have HXV := Lib.hid hxv
  have HZV := Lib.hid hzv
  clear SI0 hxv hzv LX LY LZ JP0 JQ0 HLP HLQ K0 HRX HRY HRZ w7 ex e1 e2 e3 JX JY JZ
  by_cases hv : X1 = Z1
  · have ev : (X1 == Z1) = true := by simpa using hv
    rw [ev, Bool.true_and] at SM0
    have SM := Lib.hid SM0
    clear hv SM0
    go_wp2_with (first | (with_reducible refine stop_load45 ?_) | (with_reducible refine stop_store45 ?_))
    obtain ⟨V, hV⟩ : ∃ V : List Value, V = [LV va p, .int .i64 x4, .bool true, .bool true, LV X1 rx, .int .i64 x4, .bool true, .bool true, .bool true, LV Z1 rz, .int .i64 x4, .int .i64 (k : Int), .bool true, .bool true, .bool true, LV X1 rx, LV Y1 ry, .bool fxy, .bool fxy, .bool true, .bool true, .bool true, LV va p, LV vb q, .bool flm, LV va p, LV vb q, .bool flm, .bool true, .bool true, .bool true, LV X1 rx, LV Z1 rz, .bool fxz, LV X1 rx, LV Z1 rz, .bool fxz, .bool true, .bool true, .bool true, LV X1 rx, LV Z1 rz, .bool sq, .pointer (some ⟨g13, 0, none⟩), .int .u64 X1, .pointer (some ⟨g15, 0, none⟩), .int .u64 Z1, .bool true, .bool true, .pointer (some ⟨g13, 1, none⟩), xv, .pointer (some ⟨g15, 1, none⟩), zv, .bool sq, .bool sq, .bool true, .bool true, .bool true, .bool true, .bool true, .bool true] := ⟨_, rfl⟩
    refine wp_region_inv (fun i => V.getD i undef) (fun _ w2 => Ex wr w2) (by kernel_rfl) (by kernel_rfl) (by kernel_rfl) (fitB_spec (by kernel_rfl)) ?_ ?_ ?_
    · intro l h0
      exact (Below.refl _ _).drew
    · intro i o ho
      have hi : i < 61 := (Array.getElem?_eq_some_iff.1 ho).1
      have hi' : i = 0 ∨ i = 1 ∨ i = 2 ∨ i = 3 ∨ i = 4 ∨ i = 5 ∨ i = 6 ∨ i = 7 ∨ i = 8 ∨ i = 9 ∨ i = 10 ∨ i = 11 ∨ i = 12 ∨ i = 13 ∨ i = 14 ∨ i = 15 ∨ i = 16 ∨ i = 17 ∨ i = 18 ∨ i = 19 ∨ i = 20 ∨ i = 21 ∨ i = 22 ∨ i = 23 ∨ i = 24 ∨ i = 25 ∨ i = 26 ∨ i = 27 ∨ i = 28 ∨ i = 29 ∨ i = 30 ∨ i = 31 ∨ i = 32 ∨ i = 33 ∨ i = 34 ∨ i = 35 ∨ i = 36 ∨ i = 37 ∨ i = 38 ∨ i = 39 ∨ i = 40 ∨ i = 41 ∨ i = 42 ∨ i = 43 ∨ i = 44 ∨ i = 45 ∨ i = 46 ∨ i = 47 ∨ i = 48 ∨ i = 49 ∨ i = 50 ∨ i = 51 ∨ i = 52 ∨ i = 53 ∨ i = 54 ∨ i = 55 ∨ i = 56 ∨ i = 57 ∨ i = 58 ∨ i = 59 ∨ i = 60 := by omega
      clear hi
      rcases hi' with rfl | rfl | rfl | rfl | rfl | rfl | rfl | rfl | rfl | rfl | rfl | rfl | rfl | rfl | rfl | rfl | rfl | rfl | rfl | rfl | rfl | rfl | rfl | rfl | rfl | rfl | rfl | rfl | rfl | rfl | rfl | rfl | rfl | rfl | rfl | rfl | rfl | rfl | rfl | rfl | rfl | rfl | rfl | rfl | rfl | rfl | rfl | rfl | rfl | rfl | rfl | rfl | rfl | rfl | rfl | rfl | rfl | rfl | rfl | rfl | rfl
      all_goals (simp only [List.getElem?_toArray, List.getElem?_cons_zero, List.getElem?_cons_succ, Option.some.injEq] at ho; subst ho hV; intro listed a w2 hI hsz hls hun hdep hout)
      · rw [if_pos (by rfl)]
        intro K hK
        have q6 := hout 6 (outB_spec (by kernel_rfl))
        exact wp_ld45 _ B va p rfl q6 (LB.ext A.out hI) (hK _ hI)
      · rw [if_pos (by rfl)]
        intro K hK
        have q4 := hout 4 (outB_spec (by kernel_rfl))
        clear hsz hdep hout hun
        go_simp
        exact hK _ (by exact hI)
      · rw [if_pos (by rfl)]
        intro K hK
        have q46 := (hdep ⟨0, .data⟩ (by simp) rfl).2 _ rfl _ rfl
        have q46 : a.tmps.getD 46 undef = LV va p := q46
        have q47 := (hdep ⟨1, .data⟩ (by simp) rfl).2 _ rfl _ rfl
        have q47 : a.tmps.getD 47 undef = .int .i64 x4 := q47
        clear hsz hdep hout hun
        go_simp
        refine (S1.out _ hI).mono ?_
        rintro e w3 ⟨rfl, x3⟩
        exact hK _ (Ex.trans hI x3)
      · rw [if_pos (by rfl)]
        intro K hK
        have q48 := (hdep ⟨2, .data⟩ (by simp) rfl).2 _ rfl _ rfl
        have q48 : a.tmps.getD 48 undef = .bool true := q48
        clear hsz hdep hout hun
        go_simp
        exact hK _ (by exact hI)
      · have kg := (hdep ⟨3, .guard⟩ (by simp) rfl).2 _ rfl _ rfl
        rw [if_pos (wanted_of rfl rfl rfl kg)]
        intro K hK
        have q13 := hout 13 (outB_spec (by kernel_rfl))
        exact wp_ld45 _ g13 X1 rx rfl q13 (LB.ext GX.out hI) (hK _ hI)
      · have kg := (hdep ⟨3, .guard⟩ (by simp) rfl).2 _ rfl _ rfl
        rw [if_pos (wanted_of rfl rfl rfl kg)]
        intro K hK
        have q4 := hout 4 (outB_spec (by kernel_rfl))
        clear hsz hdep hout hun kg
        go_simp
        exact hK _ (by exact hI)
      · have kg := (hdep ⟨3, .guard⟩ (by simp) rfl).2 _ rfl _ rfl
        rw [if_pos (wanted_of rfl rfl rfl kg)]
        intro K hK
        have q50 := (hdep ⟨4, .data⟩ (by simp) rfl).2 _ rfl _ rfl
        have q50 : a.tmps.getD 50 undef = LV X1 rx := q50
        have q51 := (hdep ⟨5, .data⟩ (by simp) rfl).2 _ rfl _ rfl
        have q51 : a.tmps.getD 51 undef = .int .i64 x4 := q51
        clear hsz hdep hout hun kg
        go_simp
        refine (S2.out _ hI).mono ?_
        rintro e w3 ⟨rfl, x3⟩
        exact hK _ (Ex.trans hI x3)
      · rw [if_pos (by rfl)]
        intro K hK
        have q49 := (hdep ⟨3, .data⟩ (by simp) rfl).2 _ rfl _ rfl
        have q49 : a.tmps.getD 49 undef = .bool true := q49
        have q52 := (hdep ⟨6, .data⟩ (by simp) rfl).2 _ rfl _ rfl
        have q52 : a.tmps.getD 52 undef = .bool true := q52
        clear hsz hdep hout hun
        go_simp
        exact hK _ (by exact hI)
      · rw [if_pos (by rfl)]
        intro K hK
        have q53 := (hdep ⟨7, .data⟩ (by simp) rfl).2 _ rfl _ rfl
        have q53 : a.tmps.getD 53 undef = .bool true := q53
        clear hsz hdep hout hun
        go_simp
        exact hK _ (by exact hI)
      · have kg := (hdep ⟨8, .guard⟩ (by simp) rfl).2 _ rfl _ rfl
        rw [if_pos (wanted_of rfl rfl rfl kg)]
        intro K hK
        have q15 := hout 15 (outB_spec (by kernel_rfl))
        exact wp_ld45 _ g15 Z1 rz rfl q15 (LB.ext GZ.out hI) (hK _ hI)
      · have kg := (hdep ⟨8, .guard⟩ (by simp) rfl).2 _ rfl _ rfl
        rw [if_pos (wanted_of rfl rfl rfl kg)]
        intro K hK
        have q4 := hout 4 (outB_spec (by kernel_rfl))
        clear hsz hdep hout hun kg
        go_simp
        exact hK _ (by exact hI)
      · have kg := (hdep ⟨8, .guard⟩ (by simp) rfl).2 _ rfl _ rfl
        rw [if_pos (wanted_of rfl rfl rfl kg)]
        intro K hK
        have q56 := (hdep ⟨10, .data⟩ (by simp) rfl).2 _ rfl _ rfl
        have q56 : a.tmps.getD 56 undef = .int .i64 x4 := q56
        clear hsz hdep hout hun kg
        go_simp
        exact hK _ (by exact hI)
      · have kg := (hdep ⟨8, .guard⟩ (by simp) rfl).2 _ rfl _ rfl
        rw [if_pos (wanted_of rfl rfl rfl kg)]
        intro K hK
        have q55 := (hdep ⟨9, .data⟩ (by simp) rfl).2 _ rfl _ rfl
        have q55 : a.tmps.getD 55 undef = LV Z1 rz := q55
        have q57 := (hdep ⟨11, .data⟩ (by simp) rfl).2 _ rfl _ rfl
        have q57 : a.tmps.getD 57 undef = .int .i64 (k : Int) := q57
        clear hsz hdep hout hun kg
        go_simp
        refine (S3.out _ hI).mono ?_
        rintro e w3 ⟨rfl, x3⟩
        exact hK _ (Ex.trans hI x3)
      · rw [if_pos (by rfl)]
        intro K hK
        have q54 := (hdep ⟨8, .data⟩ (by simp) rfl).2 _ rfl _ rfl
        have q54 : a.tmps.getD 54 undef = .bool true := q54
        have q58 := (hdep ⟨12, .data⟩ (by simp) rfl).2 _ rfl _ rfl
        have q58 : a.tmps.getD 58 undef = .bool true := q58
        clear hsz hdep hout hun
        go_simp
        exact hK _ (by exact hI)
      · rw [if_pos (by rfl)]
        intro K hK
        have q59 := (hdep ⟨13, .data⟩ (by simp) rfl).2 _ rfl _ rfl
        have q59 : a.tmps.getD 59 undef = .bool true := q59
        clear hsz hdep hout hun
        go_simp
        exact hK _ (by exact hI)
      · have kg := (hdep ⟨14, .guard⟩ (by simp) rfl).2 _ rfl _ rfl
        rw [if_pos (wanted_of rfl rfl rfl kg)]
        intro K hK
        have q13 := hout 13 (outB_spec (by kernel_rfl))
        exact wp_ld45 _ g13 X1 rx rfl q13 (LB.ext GX.out hI) (hK _ hI)
      · have kg := (hdep ⟨14, .guard⟩ (by simp) rfl).2 _ rfl _ rfl
        rw [if_pos (wanted_of rfl rfl rfl kg)]
        intro K hK
        have q14 := hout 14 (outB_spec (by kernel_rfl))
        exact wp_ld45 _ g14 Y1 ry rfl q14 (LB.ext GY.out hI) (hK _ hI)
      · have kg := (hdep ⟨14, .guard⟩ (by simp) rfl).2 _ rfl _ rfl
        rw [if_pos (wanted_of rfl rfl rfl kg)]
        intro K hK
        have q61 := (hdep ⟨15, .data⟩ (by simp) rfl).2 _ rfl _ rfl
        have q61 : a.tmps.getD 61 undef = LV X1 rx := q61
        have q62 := (hdep ⟨16, .data⟩ (by simp) rfl).2 _ rfl _ rfl
        have q62 : a.tmps.getD 62 undef = LV Y1 ry := q62
        clear hsz hdep hout hun kg
        go_simp
        refine (F1.out _ hI).mono ?_
        rintro e w3 ⟨rfl, x3⟩
        exact hK _ (Ex.trans hI x3)
      · have kg := (hdep ⟨14, .guard⟩ (by simp) rfl).2 _ rfl _ rfl
        rw [if_pos (wanted_of rfl rfl rfl kg)]
        intro K hK
        have q16 := hout 16 (outB_spec (by kernel_rfl))
        clear hsz hdep hout hun kg
        go_simp
        exact hK _ (by exact hI)
      · have kg := (hdep ⟨14, .guard⟩ (by simp) rfl).2 _ rfl _ rfl
        rw [if_pos (wanted_of rfl rfl rfl kg)]
        intro K hK
        have q63 := (hdep ⟨17, .data⟩ (by simp) rfl).2 _ rfl _ rfl
        have q63 : a.tmps.getD 63 undef = .bool fxy := q63
        have q64 := (hdep ⟨18, .data⟩ (by simp) rfl).2 _ rfl _ rfl
        have q64 : a.tmps.getD 64 undef = .bool fxy := q64
        clear hsz hdep hout hun kg
        go_simp
        exact hK _ (by exact hI)
      · rw [if_pos (by rfl)]
        intro K hK
        have q60 := (hdep ⟨14, .data⟩ (by simp) rfl).2 _ rfl _ rfl
        have q60 : a.tmps.getD 60 undef = .bool true := q60
        have q65 := (hdep ⟨19, .data⟩ (by simp) rfl).2 _ rfl _ rfl
        have q65 : a.tmps.getD 65 undef = .bool true := q65
        clear hsz hdep hout hun
        go_simp
        exact hK _ (by exact hI)
      · rw [if_pos (by rfl)]
        intro K hK
        have q66 := (hdep ⟨20, .data⟩ (by simp) rfl).2 _ rfl _ rfl
        have q66 : a.tmps.getD 66 undef = .bool true := q66
        clear hsz hdep hout hun
        go_simp
        exact hK _ (by exact hI)
      · have kg := (hdep ⟨21, .guard⟩ (by simp) rfl).2 _ rfl _ rfl
        rw [if_pos (wanted_of rfl rfl rfl kg)]
        intro K hK
        have q6 := hout 6 (outB_spec (by kernel_rfl))
        exact wp_ld45 _ B va p rfl q6 (LB.ext A.out hI) (hK _ hI)
      · have kg := (hdep ⟨21, .guard⟩ (by simp) rfl).2 _ rfl _ rfl
        rw [if_pos (wanted_of rfl rfl rfl kg)]
        intro K hK
        have q7 := hout 7 (outB_spec (by kernel_rfl))
        exact wp_ld45 _ (B + 1) vb q rfl q7 (LB.ext Bq.out hI) (hK _ hI)
      · have kg := (hdep ⟨21, .guard⟩ (by simp) rfl).2 _ rfl _ rfl
        rw [if_pos (wanted_of rfl rfl rfl kg)]
        intro K hK
        have q68 := (hdep ⟨22, .data⟩ (by simp) rfl).2 _ rfl _ rfl
        have q68 : a.tmps.getD 68 undef = LV va p := q68
        have q69 := (hdep ⟨23, .data⟩ (by simp) rfl).2 _ rfl _ rfl
        have q69 : a.tmps.getD 69 undef = LV vb q := q69
        clear hsz hdep hout hun kg
        go_simp
        refine (F2.out _ hI).mono ?_
        rintro e w3 ⟨rfl, x3⟩
        exact hK _ (Ex.trans hI x3)
      · have kg := (hdep ⟨21, .guard⟩ (by simp) rfl).2 _ rfl _ rfl
        rw [if_pos (wanted_of rfl rfl rfl kg)]
        intro K hK
        have q6 := hout 6 (outB_spec (by kernel_rfl))
        exact wp_ld45 _ B va p rfl q6 (LB.ext A.out hI) (hK _ hI)
      · have kg := (hdep ⟨21, .guard⟩ (by simp) rfl).2 _ rfl _ rfl
        rw [if_pos (wanted_of rfl rfl rfl kg)]
        intro K hK
        have q7 := hout 7 (outB_spec (by kernel_rfl))
        exact wp_ld45 _ (B + 1) vb q rfl q7 (LB.ext Bq.out hI) (hK _ hI)
      · have kg := (hdep ⟨21, .guard⟩ (by simp) rfl).2 _ rfl _ rfl
        rw [if_pos (wanted_of rfl rfl rfl kg)]
        intro K hK
        have q71 := (hdep ⟨25, .data⟩ (by simp) rfl).2 _ rfl _ rfl
        have q71 : a.tmps.getD 71 undef = LV va p := q71
        have q72 := (hdep ⟨26, .data⟩ (by simp) rfl).2 _ rfl _ rfl
        have q72 : a.tmps.getD 72 undef = LV vb q := q72
        clear hsz hdep hout hun kg
        go_simp
        refine (F2A.out _ hI).mono ?_
        rintro e w3 ⟨rfl, x3⟩
        exact hK _ (Ex.trans hI x3)
      · have kg := (hdep ⟨21, .guard⟩ (by simp) rfl).2 _ rfl _ rfl
        rw [if_pos (wanted_of rfl rfl rfl kg)]
        intro K hK
        have q70 := (hdep ⟨24, .data⟩ (by simp) rfl).2 _ rfl _ rfl
        have q70 : a.tmps.getD 70 undef = .bool flm := q70
        have q73 := (hdep ⟨27, .data⟩ (by simp) rfl).2 _ rfl _ rfl
        have q73 : a.tmps.getD 73 undef = .bool flm := q73
        clear hsz hdep hout hun kg
        go_simp
        exact hK _ (by exact hI)
      · rw [if_pos (by rfl)]
        intro K hK
        have q67 := (hdep ⟨21, .data⟩ (by simp) rfl).2 _ rfl _ rfl
        have q67 : a.tmps.getD 67 undef = .bool true := q67
        have q74 := (hdep ⟨28, .data⟩ (by simp) rfl).2 _ rfl _ rfl
        have q74 : a.tmps.getD 74 undef = .bool true := q74
        clear hsz hdep hout hun
        go_simp
        exact hK _ (by exact hI)
      · rw [if_pos (by rfl)]
        intro K hK
        have q75 := (hdep ⟨29, .data⟩ (by simp) rfl).2 _ rfl _ rfl
        have q75 : a.tmps.getD 75 undef = .bool true := q75
        clear hsz hdep hout hun
        go_simp
        exact hK _ (by exact hI)
      · have kg := (hdep ⟨30, .guard⟩ (by simp) rfl).2 _ rfl _ rfl
        rw [if_pos (wanted_of rfl rfl rfl kg)]
        intro K hK
        have q13 := hout 13 (outB_spec (by kernel_rfl))
        exact wp_ld45 _ g13 X1 rx rfl q13 (LB.ext GX.out hI) (hK _ hI)
      · have kg := (hdep ⟨30, .guard⟩ (by simp) rfl).2 _ rfl _ rfl
        rw [if_pos (wanted_of rfl rfl rfl kg)]
        intro K hK
        have q15 := hout 15 (outB_spec (by kernel_rfl))
        exact wp_ld45 _ g15 Z1 rz rfl q15 (LB.ext GZ.out hI) (hK _ hI)
      · have kg := (hdep ⟨30, .guard⟩ (by simp) rfl).2 _ rfl _ rfl
        rw [if_pos (wanted_of rfl rfl rfl kg)]
        intro K hK
        have q77 := (hdep ⟨31, .data⟩ (by simp) rfl).2 _ rfl _ rfl
        have q77 : a.tmps.getD 77 undef = LV X1 rx := q77
        have q78 := (hdep ⟨32, .data⟩ (by simp) rfl).2 _ rfl _ rfl
        have q78 : a.tmps.getD 78 undef = LV Z1 rz := q78
        clear hsz hdep hout hun kg
        go_simp
        refine (F3.out _ hI).mono ?_
        rintro e w3 ⟨rfl, x3⟩
        exact hK _ (Ex.trans hI x3)
      · have kg := (hdep ⟨30, .guard⟩ (by simp) rfl).2 _ rfl _ rfl
        rw [if_pos (wanted_of rfl rfl rfl kg)]
        intro K hK
        have q13 := hout 13 (outB_spec (by kernel_rfl))
        exact wp_ld45 _ g13 X1 rx rfl q13 (LB.ext GX.out hI) (hK _ hI)
      · have kg := (hdep ⟨30, .guard⟩ (by simp) rfl).2 _ rfl _ rfl
        rw [if_pos (wanted_of rfl rfl rfl kg)]
        intro K hK
        have q15 := hout 15 (outB_spec (by kernel_rfl))
        exact wp_ld45 _ g15 Z1 rz rfl q15 (LB.ext GZ.out hI) (hK _ hI)
      · have kg := (hdep ⟨30, .guard⟩ (by simp) rfl).2 _ rfl _ rfl
        rw [if_pos (wanted_of rfl rfl rfl kg)]
        intro K hK
        have q80 := (hdep ⟨34, .data⟩ (by simp) rfl).2 _ rfl _ rfl
        have q80 : a.tmps.getD 80 undef = LV X1 rx := q80
        have q81 := (hdep ⟨35, .data⟩ (by simp) rfl).2 _ rfl _ rfl
        have q81 : a.tmps.getD 81 undef = LV Z1 rz := q81
        clear hsz hdep hout hun kg
        go_simp
        refine (F3A.out _ hI).mono ?_
        rintro e w3 ⟨rfl, x3⟩
        exact hK _ (Ex.trans hI x3)
      · have kg := (hdep ⟨30, .guard⟩ (by simp) rfl).2 _ rfl _ rfl
        rw [if_pos (wanted_of rfl rfl rfl kg)]
        intro K hK
        have q79 := (hdep ⟨33, .data⟩ (by simp) rfl).2 _ rfl _ rfl
        have q79 : a.tmps.getD 79 undef = .bool fxz := q79
        have q82 := (hdep ⟨36, .data⟩ (by simp) rfl).2 _ rfl _ rfl
        have q82 : a.tmps.getD 82 undef = .bool fxz := q82
        clear hsz hdep hout hun kg
        go_simp
        exact hK _ (by exact hI)
      · rw [if_pos (by rfl)]
        intro K hK
        have q76 := (hdep ⟨30, .data⟩ (by simp) rfl).2 _ rfl _ rfl
        have q76 : a.tmps.getD 76 undef = .bool true := q76
        have q83 := (hdep ⟨37, .data⟩ (by simp) rfl).2 _ rfl _ rfl
        have q83 : a.tmps.getD 83 undef = .bool true := q83
        clear hsz hdep hout hun
        go_simp
        exact hK _ (by exact hI)
      · rw [if_pos (by rfl)]
        intro K hK
        have q84 := (hdep ⟨38, .data⟩ (by simp) rfl).2 _ rfl _ rfl
        have q84 : a.tmps.getD 84 undef = .bool true := q84
        clear hsz hdep hout hun
        go_simp
        exact hK _ (by exact hI)
      · have kg := (hdep ⟨39, .guard⟩ (by simp) rfl).2 _ rfl _ rfl
        rw [if_pos (wanted_of rfl rfl rfl kg)]
        intro K hK
        have q13 := hout 13 (outB_spec (by kernel_rfl))
        exact wp_ld45 _ g13 X1 rx rfl q13 (LB.ext GX.out hI) (hK _ hI)
      · have kg := (hdep ⟨39, .guard⟩ (by simp) rfl).2 _ rfl _ rfl
        rw [if_pos (wanted_of rfl rfl rfl kg)]
        intro K hK
        have q15 := hout 15 (outB_spec (by kernel_rfl))
        exact wp_ld45 _ g15 Z1 rz rfl q15 (LB.ext GZ.out hI) (hK _ hI)
      · have kg := (hdep ⟨39, .guard⟩ (by simp) rfl).2 _ rfl _ rfl
        rw [if_pos (wanted_of rfl rfl rfl kg)]
        intro K hK
        have q86 := (hdep ⟨40, .data⟩ (by simp) rfl).2 _ rfl _ rfl
        have q86 : a.tmps.getD 86 undef = LV X1 rx := q86
        have q87 := (hdep ⟨41, .data⟩ (by simp) rfl).2 _ rfl _ rfl
        have q87 : a.tmps.getD 87 undef = LV Z1 rz := q87
        clear hsz hdep hout hun kg
        go_simp
        refine (SM.out _ hI).mono ?_
        rintro e w3 ⟨rfl, x3⟩
        exact hK _ (Ex.trans hI x3)
      · have kg := (hdep ⟨39, .guard⟩ (by simp) rfl).2 _ rfl _ rfl
        rw [if_pos (wanted_of rfl rfl rfl kg)]
        intro K hK
        have q13 := hout 13 (outB_spec (by kernel_rfl))
        clear hsz hdep hout hun kg
        go_simp
        exact hK _ (by exact hI)
      · have kg := (hdep ⟨39, .guard⟩ (by simp) rfl).2 _ rfl _ rfl
        rw [if_pos (wanted_of rfl rfl rfl kg)]
        intro K hK
        have q89 := (hdep ⟨43, .data⟩ (by simp) rfl).2 _ rfl _ rfl
        have q89 : a.tmps.getD 89 undef = .pointer (some ⟨g13, 0, none⟩) := q89
        have f1 : w2.cell? ⟨g13, 0, none⟩ = some (.int .u64 X1) := Bk.cell (LB.ext GX.out hI) 0
        clear hsz hdep hout hun kg
        go_simp
        exact hK _ hI
      · have kg := (hdep ⟨39, .guard⟩ (by simp) rfl).2 _ rfl _ rfl
        rw [if_pos (wanted_of rfl rfl rfl kg)]
        intro K hK
        have q15 := hout 15 (outB_spec (by kernel_rfl))
        clear hsz hdep hout hun kg
        go_simp
        exact hK _ (by exact hI)
      · have kg := (hdep ⟨39, .guard⟩ (by simp) rfl).2 _ rfl _ rfl
        rw [if_pos (wanted_of rfl rfl rfl kg)]
        intro K hK
        have q91 := (hdep ⟨45, .data⟩ (by simp) rfl).2 _ rfl _ rfl
        have q91 : a.tmps.getD 91 undef = .pointer (some ⟨g15, 0, none⟩) := q91
        have f1 : w2.cell? ⟨g15, 0, none⟩ = some (.int .u64 Z1) := Bk.cell (LB.ext GZ.out hI) 0
        clear hsz hdep hout hun kg
        go_simp
        exact hK _ hI
      · have kg := (hdep ⟨39, .guard⟩ (by simp) rfl).2 _ rfl _ rfl
        rw [if_pos (wanted_of rfl rfl rfl kg)]
        intro K hK
        have q90 := (hdep ⟨44, .data⟩ (by simp) rfl).2 _ rfl _ rfl
        have q90 : a.tmps.getD 90 undef = .int .u64 X1 := q90
        have q92 := (hdep ⟨46, .data⟩ (by simp) rfl).2 _ rfl _ rfl
        have q92 : a.tmps.getD 92 undef = .int .u64 Z1 := q92
        clear hsz hdep hout hun kg
        go_simp
        exact hK _ (by exact hI)
      · have kg := (hdep ⟨39, .guard⟩ (by simp) rfl).2 _ rfl _ rfl
        rw [if_pos (wanted_of rfl rfl rfl kg)]
        intro K hK
        have q93 := (hdep ⟨47, .data⟩ (by simp) rfl).2 _ rfl _ rfl
        have q93 : a.tmps.getD 93 undef = .bool true := q93
        clear hsz hdep hout hun kg
        go_simp
        exact hK _ (by exact hI)
      · have kg := (hdep ⟨48, .guard⟩ (by simp) rfl).2 _ rfl _ rfl
        rw [if_pos (wanted_of rfl rfl rfl kg)]
        intro K hK
        have q13 := hout 13 (outB_spec (by kernel_rfl))
        clear hsz hdep hout hun kg
        go_simp
        exact hK _ (by exact hI)
      · have kg := (hdep ⟨48, .guard⟩ (by simp) rfl).2 _ rfl _ rfl
        rw [if_pos (wanted_of rfl rfl rfl kg)]
        intro K hK
        have q95 := (hdep ⟨49, .data⟩ (by simp) rfl).2 _ rfl _ rfl
        have q95 : a.tmps.getD 95 undef = .pointer (some ⟨g13, 1, none⟩) := q95
        have f1 : w2.cell? ⟨g13, 1, none⟩ = some xv := by rw [HXV.out]; exact Bk.cell (LB.ext GX.out hI) 1
        clear hsz hdep hout hun kg
        go_simp
        exact hK _ hI
      · have kg := (hdep ⟨48, .guard⟩ (by simp) rfl).2 _ rfl _ rfl
        rw [if_pos (wanted_of rfl rfl rfl kg)]
        intro K hK
        have q15 := hout 15 (outB_spec (by kernel_rfl))
        clear hsz hdep hout hun kg
        go_simp
        exact hK _ (by exact hI)
      · have kg := (hdep ⟨48, .guard⟩ (by simp) rfl).2 _ rfl _ rfl
        rw [if_pos (wanted_of rfl rfl rfl kg)]
        intro K hK
        have q97 := (hdep ⟨51, .data⟩ (by simp) rfl).2 _ rfl _ rfl
        have q97 : a.tmps.getD 97 undef = .pointer (some ⟨g15, 1, none⟩) := q97
        have f1 : w2.cell? ⟨g15, 1, none⟩ = some zv := by rw [HZV.out]; exact Bk.cell (LB.ext GZ.out hI) 1
        clear hsz hdep hout hun kg
        go_simp
        exact hK _ hI
      · have kg := (hdep ⟨48, .guard⟩ (by simp) rfl).2 _ rfl _ rfl
        rw [if_pos (wanted_of rfl rfl rfl kg)]
        intro K hK
        have q96 := (hdep ⟨50, .data⟩ (by simp) rfl).2 _ rfl _ rfl
        have q96 : a.tmps.getD 96 undef = xv := q96
        have q98 := (hdep ⟨52, .data⟩ (by simp) rfl).2 _ rfl _ rfl
        have q98 : a.tmps.getD 98 undef = zv := q98
        clear hsz hdep hout hun kg
        go_simp
        refine (SI.out _ hI).mono ?_
        rintro e w3 ⟨rfl, x3⟩
        exact hK _ (Ex.trans hI x3)
      · have kg := (hdep ⟨39, .guard⟩ (by simp) rfl).2 _ rfl _ rfl
        rw [if_pos (wanted_of rfl rfl rfl kg)]
        intro K hK
        have q94 := (hdep ⟨48, .data⟩ (by simp) rfl).2 _ rfl _ rfl
        have q94 : a.tmps.getD 94 undef = .bool true := q94
        have q99 := (hdep ⟨53, .data⟩ (by simp) rfl).2 _ rfl _ rfl
        have q99 : a.tmps.getD 99 undef = .bool sq := q99
        clear hsz hdep hout hun kg
        go_simp
        exact hK _ (by exact hI)
      · have kg := (hdep ⟨39, .guard⟩ (by simp) rfl).2 _ rfl _ rfl
        rw [if_pos (wanted_of rfl rfl rfl kg)]
        intro K hK
        have q88 := (hdep ⟨42, .data⟩ (by simp) rfl).2 _ rfl _ rfl
        have q88 : a.tmps.getD 88 undef = .bool sq := q88
        have q100 := (hdep ⟨54, .data⟩ (by simp) rfl).2 _ rfl _ rfl
        have q100 : a.tmps.getD 100 undef = .bool sq := q100
        clear hsz hdep hout hun kg
        go_simp
        exact hK _ (by exact hI)
      · rw [if_pos (by rfl)]
        intro K hK
        have q85 := (hdep ⟨39, .data⟩ (by simp) rfl).2 _ rfl _ rfl
        have q85 : a.tmps.getD 85 undef = .bool true := q85
        have q101 := (hdep ⟨55, .data⟩ (by simp) rfl).2 _ rfl _ rfl
        have q101 : a.tmps.getD 101 undef = .bool true := q101
        clear hsz hdep hout hun
        go_simp
        exact hK _ (by exact hI)
      · rw [if_pos (by rfl)]
        intro K hK
        have q102 := (hdep ⟨56, .data⟩ (by simp) rfl).2 _ rfl _ rfl
        have q102 : a.tmps.getD 102 undef = .bool true := q102
        clear hsz hdep hout hun
        go_simp
        exact hK _ (by exact hI)
      · have kg := (hdep ⟨57, .guard⟩ (by simp) rfl).2 _ rfl _ rfl
        rw [if_pos (wanted_of rfl rfl rfl kg)]
        intro K hK
        clear hsz hdep hout hun kg
        go_simp
        refine (KN.out _ hI).mono ?_
        rintro e w3 ⟨rfl, x3⟩
        exact hK _ (Ex.trans hI x3)
      · rw [if_pos (by rfl)]
        intro K hK
        have q103 := (hdep ⟨57, .data⟩ (by simp) rfl).2 _ rfl _ rfl
        have q103 : a.tmps.getD 103 undef = .bool true := q103
        have q104 := (hdep ⟨58, .data⟩ (by simp) rfl).2 _ rfl _ rfl
        have q104 : a.tmps.getD 104 undef = .bool true := q104
        clear hsz hdep hout hun
        go_simp
        exact hK _ (by exact hI)
      · rw [if_pos (by rfl)]
        intro K hK
        have q105 := (hdep ⟨59, .data⟩ (by simp) rfl).2 _ rfl _ rfl
        have q105 : a.tmps.getD 105 undef = .bool true := q105
        clear hsz hdep hout hun
        go_simp
        exact hK _ (by exact hI)
    · intro l a w4 hall hI hdef hsz h1 h2
      have f6 : a.tmps[12]?.getD undef = .bool true := by
        rw [← Array.getD_eq_getD_getElem?, h1 60 _ rfl 12 rfl, hV]; rfl
      have fd : a.defers = [] := hdef
      clear h1 h2 hV hall hsz hdef
      have bw4 : Ex w w4 := Ex.trans bw hI
      go_wp2_with fail
      exact bodyPost_ret (v := .bool true) (by simp [results, Try.results7, go_sem, f6]) fd ⟨rfl, bw4⟩
  · have ev : (X1 == Z1) = false := by simpa using hv
    rw [ev, Bool.false_and] at SM0
    have SM := Lib.hid SM0
    clear hv SM0
    go_wp2_with (first | (with_reducible refine stop_load45 ?_) | (with_reducible refine stop_store45 ?_))
    obtain ⟨V, hV⟩ : ∃ V : List Value, V = [LV va p, .int .i64 x4, .bool true, .bool true, LV X1 rx, .int .i64 x4, .bool true, .bool true, .bool true, LV Z1 rz, .int .i64 x4, .int .i64 (k : Int), .bool true, .bool true, .bool true, LV X1 rx, LV Y1 ry, .bool fxy, .bool fxy, .bool true, .bool true, .bool true, LV va p, LV vb q, .bool flm, LV va p, LV vb q, .bool flm, .bool true, .bool true, .bool true, LV X1 rx, LV Z1 rz, .bool fxz, LV X1 rx, LV Z1 rz, .bool fxz, .bool true, .bool true, .bool true, LV X1 rx, LV Z1 rz, .bool false, .pointer (some ⟨g13, 0, none⟩), .int .u64 X1, .pointer (some ⟨g15, 0, none⟩), .int .u64 Z1, .bool false, .bool false, undef, undef, undef, undef, undef, .bool false, .bool true, .bool true, .bool true, .bool true, .bool true, .bool true] := ⟨_, rfl⟩
    refine wp_region_inv (fun i => V.getD i undef) (fun _ w2 => Ex wr w2) (by kernel_rfl) (by kernel_rfl) (by kernel_rfl) (fitB_spec (by kernel_rfl)) ?_ ?_ ?_
    · intro l h0
      exact (Below.refl _ _).drew
    · intro i o ho
      have hi : i < 61 := (Array.getElem?_eq_some_iff.1 ho).1
      have hi' : i = 0 ∨ i = 1 ∨ i = 2 ∨ i = 3 ∨ i = 4 ∨ i = 5 ∨ i = 6 ∨ i = 7 ∨ i = 8 ∨ i = 9 ∨ i = 10 ∨ i = 11 ∨ i = 12 ∨ i = 13 ∨ i = 14 ∨ i = 15 ∨ i = 16 ∨ i = 17 ∨ i = 18 ∨ i = 19 ∨ i = 20 ∨ i = 21 ∨ i = 22 ∨ i = 23 ∨ i = 24 ∨ i = 25 ∨ i = 26 ∨ i = 27 ∨ i = 28 ∨ i = 29 ∨ i = 30 ∨ i = 31 ∨ i = 32 ∨ i = 33 ∨ i = 34 ∨ i = 35 ∨ i = 36 ∨ i = 37 ∨ i = 38 ∨ i = 39 ∨ i = 40 ∨ i = 41 ∨ i = 42 ∨ i = 43 ∨ i = 44 ∨ i = 45 ∨ i = 46 ∨ i = 47 ∨ i = 48 ∨ i = 49 ∨ i = 50 ∨ i = 51 ∨ i = 52 ∨ i = 53 ∨ i = 54 ∨ i = 55 ∨ i = 56 ∨ i = 57 ∨ i = 58 ∨ i = 59 ∨ i = 60 := by omega
      clear hi
      rcases hi' with rfl | rfl | rfl | rfl | rfl | rfl | rfl | rfl | rfl | rfl | rfl | rfl | rfl | rfl | rfl | rfl | rfl | rfl | rfl | rfl | rfl | rfl | rfl | rfl | rfl | rfl | rfl | rfl | rfl | rfl | rfl | rfl | rfl | rfl | rfl | rfl | rfl | rfl | rfl | rfl | rfl | rfl | rfl | rfl | rfl | rfl | rfl | rfl | rfl | rfl | rfl | rfl | rfl | rfl | rfl | rfl | rfl | rfl | rfl | rfl | rfl
      all_goals (simp only [List.getElem?_toArray, List.getElem?_cons_zero, List.getElem?_cons_succ, Option.some.injEq] at ho; subst ho hV; intro listed a w2 hI hsz hls hun hdep hout)
      · rw [if_pos (by rfl)]
        intro K hK
        have q6 := hout 6 (outB_spec (by kernel_rfl))
        exact wp_ld45 _ B va p rfl q6 (LB.ext A.out hI) (hK _ hI)
      · rw [if_pos (by rfl)]
        intro K hK
        have q4 := hout 4 (outB_spec (by kernel_rfl))
        clear hsz hdep hout hun
        go_simp
        exact hK _ (by exact hI)
      · rw [if_pos (by rfl)]
        intro K hK
        have q46 := (hdep ⟨0, .data⟩ (by simp) rfl).2 _ rfl _ rfl
        have q46 : a.tmps.getD 46 undef = LV va p := q46
        have q47 := (hdep ⟨1, .data⟩ (by simp) rfl).2 _ rfl _ rfl
        have q47 : a.tmps.getD 47 undef = .int .i64 x4 := q47
        clear hsz hdep hout hun
        go_simp
        refine (S1.out _ hI).mono ?_
        rintro e w3 ⟨rfl, x3⟩
        exact hK _ (Ex.trans hI x3)
      · rw [if_pos (by rfl)]
        intro K hK
        have q48 := (hdep ⟨2, .data⟩ (by simp) rfl).2 _ rfl _ rfl
        have q48 : a.tmps.getD 48 undef = .bool true := q48
        clear hsz hdep hout hun
        go_simp
        exact hK _ (by exact hI)
      · have kg := (hdep ⟨3, .guard⟩ (by simp) rfl).2 _ rfl _ rfl
        rw [if_pos (wanted_of rfl rfl rfl kg)]
        intro K hK
        have q13 := hout 13 (outB_spec (by kernel_rfl))
        exact wp_ld45 _ g13 X1 rx rfl q13 (LB.ext GX.out hI) (hK _ hI)
      · have kg := (hdep ⟨3, .guard⟩ (by simp) rfl).2 _ rfl _ rfl
        rw [if_pos (wanted_of rfl rfl rfl kg)]
        intro K hK
        have q4 := hout 4 (outB_spec (by kernel_rfl))
        clear hsz hdep hout hun kg
        go_simp
        exact hK _ (by exact hI)
      · have kg := (hdep ⟨3, .guard⟩ (by simp) rfl).2 _ rfl _ rfl
        rw [if_pos (wanted_of rfl rfl rfl kg)]
        intro K hK
        have q50 := (hdep ⟨4, .data⟩ (by simp) rfl).2 _ rfl _ rfl
        have q50 : a.tmps.getD 50 undef = LV X1 rx := q50
        have q51 := (hdep ⟨5, .data⟩ (by simp) rfl).2 _ rfl _ rfl
        have q51 : a.tmps.getD 51 undef = .int .i64 x4 := q51
        clear hsz hdep hout hun kg
        go_simp
        refine (S2.out _ hI).mono ?_
        rintro e w3 ⟨rfl, x3⟩
        exact hK _ (Ex.trans hI x3)
      · rw [if_pos (by rfl)]
        intro K hK
        have q49 := (hdep ⟨3, .data⟩ (by simp) rfl).2 _ rfl _ rfl
        have q49 : a.tmps.getD 49 undef = .bool true := q49
        have q52 := (hdep ⟨6, .data⟩ (by simp) rfl).2 _ rfl _ rfl
        have q52 : a.tmps.getD 52 undef = .bool true := q52
        clear hsz hdep hout hun
        go_simp
        exact hK _ (by exact hI)
      · rw [if_pos (by rfl)]
        intro K hK
        have q53 := (hdep ⟨7, .data⟩ (by simp) rfl).2 _ rfl _ rfl
        have q53 : a.tmps.getD 53 undef = .bool true := q53
        clear hsz hdep hout hun
        go_simp
        exact hK _ (by exact hI)
      · have kg := (hdep ⟨8, .guard⟩ (by simp) rfl).2 _ rfl _ rfl
        rw [if_pos (wanted_of rfl rfl rfl kg)]
        intro K hK
        have q15 := hout 15 (outB_spec (by kernel_rfl))
        exact wp_ld45 _ g15 Z1 rz rfl q15 (LB.ext GZ.out hI) (hK _ hI)
      · have kg := (hdep ⟨8, .guard⟩ (by simp) rfl).2 _ rfl _ rfl
        rw [if_pos (wanted_of rfl rfl rfl kg)]
        intro K hK
        have q4 := hout 4 (outB_spec (by kernel_rfl))
        clear hsz hdep hout hun kg
        go_simp
        exact hK _ (by exact hI)
      · have kg := (hdep ⟨8, .guard⟩ (by simp) rfl).2 _ rfl _ rfl
        rw [if_pos (wanted_of rfl rfl rfl kg)]
        intro K hK
        have q56 := (hdep ⟨10, .data⟩ (by simp) rfl).2 _ rfl _ rfl
        have q56 : a.tmps.getD 56 undef = .int .i64 x4 := q56
        clear hsz hdep hout hun kg
        go_simp
        exact hK _ (by exact hI)
      · have kg := (hdep ⟨8, .guard⟩ (by simp) rfl).2 _ rfl _ rfl
        rw [if_pos (wanted_of rfl rfl rfl kg)]
        intro K hK
        have q55 := (hdep ⟨9, .data⟩ (by simp) rfl).2 _ rfl _ rfl
        have q55 : a.tmps.getD 55 undef = LV Z1 rz := q55
        have q57 := (hdep ⟨11, .data⟩ (by simp) rfl).2 _ rfl _ rfl
        have q57 : a.tmps.getD 57 undef = .int .i64 (k : Int) := q57
        clear hsz hdep hout hun kg
        go_simp
        refine (S3.out _ hI).mono ?_
        rintro e w3 ⟨rfl, x3⟩
        exact hK _ (Ex.trans hI x3)
      · rw [if_pos (by rfl)]
        intro K hK
        have q54 := (hdep ⟨8, .data⟩ (by simp) rfl).2 _ rfl _ rfl
        have q54 : a.tmps.getD 54 undef = .bool true := q54
        have q58 := (hdep ⟨12, .data⟩ (by simp) rfl).2 _ rfl _ rfl
        have q58 : a.tmps.getD 58 undef = .bool true := q58
        clear hsz hdep hout hun
        go_simp
        exact hK _ (by exact hI)
      · rw [if_pos (by rfl)]
        intro K hK
        have q59 := (hdep ⟨13, .data⟩ (by simp) rfl).2 _ rfl _ rfl
        have q59 : a.tmps.getD 59 undef = .bool true := q59
        clear hsz hdep hout hun
        go_simp
        exact hK _ (by exact hI)
      · have kg := (hdep ⟨14, .guard⟩ (by simp) rfl).2 _ rfl _ rfl
        rw [if_pos (wanted_of rfl rfl rfl kg)]
        intro K hK
        have q13 := hout 13 (outB_spec (by kernel_rfl))
        exact wp_ld45 _ g13 X1 rx rfl q13 (LB.ext GX.out hI) (hK _ hI)
      · have kg := (hdep ⟨14, .guard⟩ (by simp) rfl).2 _ rfl _ rfl
        rw [if_pos (wanted_of rfl rfl rfl kg)]
        intro K hK
        have q14 := hout 14 (outB_spec (by kernel_rfl))
        exact wp_ld45 _ g14 Y1 ry rfl q14 (LB.ext GY.out hI) (hK _ hI)
      · have kg := (hdep ⟨14, .guard⟩ (by simp) rfl).2 _ rfl _ rfl
        rw [if_pos (wanted_of rfl rfl rfl kg)]
        intro K hK
        have q61 := (hdep ⟨15, .data⟩ (by simp) rfl).2 _ rfl _ rfl
        have q61 : a.tmps.getD 61 undef = LV X1 rx := q61
        have q62 := (hdep ⟨16, .data⟩ (by simp) rfl).2 _ rfl _ rfl
        have q62 : a.tmps.getD 62 undef = LV Y1 ry := q62
        clear hsz hdep hout hun kg
        go_simp
        refine (F1.out _ hI).mono ?_
        rintro e w3 ⟨rfl, x3⟩
        exact hK _ (Ex.trans hI x3)
      · have kg := (hdep ⟨14, .guard⟩ (by simp) rfl).2 _ rfl _ rfl
        rw [if_pos (wanted_of rfl rfl rfl kg)]
        intro K hK
        have q16 := hout 16 (outB_spec (by kernel_rfl))
        clear hsz hdep hout hun kg
        go_simp
        exact hK _ (by exact hI)
      · have kg := (hdep ⟨14, .guard⟩ (by simp) rfl).2 _ rfl _ rfl
        rw [if_pos (wanted_of rfl rfl rfl kg)]
        intro K hK
        have q63 := (hdep ⟨17, .data⟩ (by simp) rfl).2 _ rfl _ rfl
        have q63 : a.tmps.getD 63 undef = .bool fxy := q63
        have q64 := (hdep ⟨18, .data⟩ (by simp) rfl).2 _ rfl _ rfl
        have q64 : a.tmps.getD 64 undef = .bool fxy := q64
        clear hsz hdep hout hun kg
        go_simp
        exact hK _ (by exact hI)
      · rw [if_pos (by rfl)]
        intro K hK
        have q60 := (hdep ⟨14, .data⟩ (by simp) rfl).2 _ rfl _ rfl
        have q60 : a.tmps.getD 60 undef = .bool true := q60
        have q65 := (hdep ⟨19, .data⟩ (by simp) rfl).2 _ rfl _ rfl
        have q65 : a.tmps.getD 65 undef = .bool true := q65
        clear hsz hdep hout hun
        go_simp
        exact hK _ (by exact hI)
      · rw [if_pos (by rfl)]
        intro K hK
        have q66 := (hdep ⟨20, .data⟩ (by simp) rfl).2 _ rfl _ rfl
        have q66 : a.tmps.getD 66 undef = .bool true := q66
        clear hsz hdep hout hun
        go_simp
        exact hK _ (by exact hI)
      · have kg := (hdep ⟨21, .guard⟩ (by simp) rfl).2 _ rfl _ rfl
        rw [if_pos (wanted_of rfl rfl rfl kg)]
        intro K hK
        have q6 := hout 6 (outB_spec (by kernel_rfl))
        exact wp_ld45 _ B va p rfl q6 (LB.ext A.out hI) (hK _ hI)
      · have kg := (hdep ⟨21, .guard⟩ (by simp) rfl).2 _ rfl _ rfl
        rw [if_pos (wanted_of rfl rfl rfl kg)]
        intro K hK
        have q7 := hout 7 (outB_spec (by kernel_rfl))
        exact wp_ld45 _ (B + 1) vb q rfl q7 (LB.ext Bq.out hI) (hK _ hI)
      · have kg := (hdep ⟨21, .guard⟩ (by simp) rfl).2 _ rfl _ rfl
        rw [if_pos (wanted_of rfl rfl rfl kg)]
        intro K hK
        have q68 := (hdep ⟨22, .data⟩ (by simp) rfl).2 _ rfl _ rfl
        have q68 : a.tmps.getD 68 undef = LV va p := q68
        have q69 := (hdep ⟨23, .data⟩ (by simp) rfl).2 _ rfl _ rfl
        have q69 : a.tmps.getD 69 undef = LV vb q := q69
        clear hsz hdep hout hun kg
        go_simp
        refine (F2.out _ hI).mono ?_
        rintro e w3 ⟨rfl, x3⟩
        exact hK _ (Ex.trans hI x3)
      · have kg := (hdep ⟨21, .guard⟩ (by simp) rfl).2 _ rfl _ rfl
        rw [if_pos (wanted_of rfl rfl rfl kg)]
        intro K hK
        have q6 := hout 6 (outB_spec (by kernel_rfl))
        exact wp_ld45 _ B va p rfl q6 (LB.ext A.out hI) (hK _ hI)
      · have kg := (hdep ⟨21, .guard⟩ (by simp) rfl).2 _ rfl _ rfl
        rw [if_pos (wanted_of rfl rfl rfl kg)]
        intro K hK
        have q7 := hout 7 (outB_spec (by kernel_rfl))
        exact wp_ld45 _ (B + 1) vb q rfl q7 (LB.ext Bq.out hI) (hK _ hI)
      · have kg := (hdep ⟨21, .guard⟩ (by simp) rfl).2 _ rfl _ rfl
        rw [if_pos (wanted_of rfl rfl rfl kg)]
        intro K hK
        have q71 := (hdep ⟨25, .data⟩ (by simp) rfl).2 _ rfl _ rfl
        have q71 : a.tmps.getD 71 undef = LV va p := q71
        have q72 := (hdep ⟨26, .data⟩ (by simp) rfl).2 _ rfl _ rfl
        have q72 : a.tmps.getD 72 undef = LV vb q := q72
        clear hsz hdep hout hun kg
        go_simp
        refine (F2A.out _ hI).mono ?_
        rintro e w3 ⟨rfl, x3⟩
        exact hK _ (Ex.trans hI x3)
      · have kg := (hdep ⟨21, .guard⟩ (by simp) rfl).2 _ rfl _ rfl
        rw [if_pos (wanted_of rfl rfl rfl kg)]
        intro K hK
        have q70 := (hdep ⟨24, .data⟩ (by simp) rfl).2 _ rfl _ rfl
        have q70 : a.tmps.getD 70 undef = .bool flm := q70
        have q73 := (hdep ⟨27, .data⟩ (by simp) rfl).2 _ rfl _ rfl
        have q73 : a.tmps.getD 73 undef = .bool flm := q73
        clear hsz hdep hout hun kg
        go_simp
        exact hK _ (by exact hI)
      · rw [if_pos (by rfl)]
        intro K hK
        have q67 := (hdep ⟨21, .data⟩ (by simp) rfl).2 _ rfl _ rfl
        have q67 : a.tmps.getD 67 undef = .bool true := q67
        have q74 := (hdep ⟨28, .data⟩ (by simp) rfl).2 _ rfl _ rfl
        have q74 : a.tmps.getD 74 undef = .bool true := q74
        clear hsz hdep hout hun
        go_simp
        exact hK _ (by exact hI)
      · rw [if_pos (by rfl)]
        intro K hK
        have q75 := (hdep ⟨29, .data⟩ (by simp) rfl).2 _ rfl _ rfl
        have q75 : a.tmps.getD 75 undef = .bool true := q75
        clear hsz hdep hout hun
        go_simp
        exact hK _ (by exact hI)
      · have kg := (hdep ⟨30, .guard⟩ (by simp) rfl).2 _ rfl _ rfl
        rw [if_pos (wanted_of rfl rfl rfl kg)]
        intro K hK
        have q13 := hout 13 (outB_spec (by kernel_rfl))
        exact wp_ld45 _ g13 X1 rx rfl q13 (LB.ext GX.out hI) (hK _ hI)
      · have kg := (hdep ⟨30, .guard⟩ (by simp) rfl).2 _ rfl _ rfl
        rw [if_pos (wanted_of rfl rfl rfl kg)]
        intro K hK
        have q15 := hout 15 (outB_spec (by kernel_rfl))
        exact wp_ld45 _ g15 Z1 rz rfl q15 (LB.ext GZ.out hI) (hK _ hI)
      · have kg := (hdep ⟨30, .guard⟩ (by simp) rfl).2 _ rfl _ rfl
        rw [if_pos (wanted_of rfl rfl rfl kg)]
        intro K hK
        have q77 := (hdep ⟨31, .data⟩ (by simp) rfl).2 _ rfl _ rfl
        have q77 : a.tmps.getD 77 undef = LV X1 rx := q77
        have q78 := (hdep ⟨32, .data⟩ (by simp) rfl).2 _ rfl _ rfl
        have q78 : a.tmps.getD 78 undef = LV Z1 rz := q78
        clear hsz hdep hout hun kg
        go_simp
        refine (F3.out _ hI).mono ?_
        rintro e w3 ⟨rfl, x3⟩
        exact hK _ (Ex.trans hI x3)
      · have kg := (hdep ⟨30, .guard⟩ (by simp) rfl).2 _ rfl _ rfl
        rw [if_pos (wanted_of rfl rfl rfl kg)]
        intro K hK
        have q13 := hout 13 (outB_spec (by kernel_rfl))
        exact wp_ld45 _ g13 X1 rx rfl q13 (LB.ext GX.out hI) (hK _ hI)
      · have kg := (hdep ⟨30, .guard⟩ (by simp) rfl).2 _ rfl _ rfl
        rw [if_pos (wanted_of rfl rfl rfl kg)]
        intro K hK
        have q15 := hout 15 (outB_spec (by kernel_rfl))
        exact wp_ld45 _ g15 Z1 rz rfl q15 (LB.ext GZ.out hI) (hK _ hI)
      · have kg := (hdep ⟨30, .guard⟩ (by simp) rfl).2 _ rfl _ rfl
        rw [if_pos (wanted_of rfl rfl rfl kg)]
        intro K hK
        have q80 := (hdep ⟨34, .data⟩ (by simp) rfl).2 _ rfl _ rfl
        have q80 : a.tmps.getD 80 undef = LV X1 rx := q80
        have q81 := (hdep ⟨35, .data⟩ (by simp) rfl).2 _ rfl _ rfl
        have q81 : a.tmps.getD 81 undef = LV Z1 rz := q81
        clear hsz hdep hout hun kg
        go_simp
        refine (F3A.out _ hI).mono ?_
        rintro e w3 ⟨rfl, x3⟩
        exact hK _ (Ex.trans hI x3)
      · have kg := (hdep ⟨30, .guard⟩ (by simp) rfl).2 _ rfl _ rfl
        rw [if_pos (wanted_of rfl rfl rfl kg)]
        intro K hK
        have q79 := (hdep ⟨33, .data⟩ (by simp) rfl).2 _ rfl _ rfl
        have q79 : a.tmps.getD 79 undef = .bool fxz := q79
        have q82 := (hdep ⟨36, .data⟩ (by simp) rfl).2 _ rfl _ rfl
        have q82 : a.tmps.getD 82 undef = .bool fxz := q82
        clear hsz hdep hout hun kg
        go_simp
        exact hK _ (by exact hI)
      · rw [if_pos (by rfl)]
        intro K hK
        have q76 := (hdep ⟨30, .data⟩ (by simp) rfl).2 _ rfl _ rfl
        have q76 : a.tmps.getD 76 undef = .bool true := q76
        have q83 := (hdep ⟨37, .data⟩ (by simp) rfl).2 _ rfl _ rfl
        have q83 : a.tmps.getD 83 undef = .bool true := q83
        clear hsz hdep hout hun
        go_simp
        exact hK _ (by exact hI)
      · rw [if_pos (by rfl)]
        intro K hK
        have q84 := (hdep ⟨38, .data⟩ (by simp) rfl).2 _ rfl _ rfl
        have q84 : a.tmps.getD 84 undef = .bool true := q84
        clear hsz hdep hout hun
        go_simp
        exact hK _ (by exact hI)
      · have kg := (hdep ⟨39, .guard⟩ (by simp) rfl).2 _ rfl _ rfl
        rw [if_pos (wanted_of rfl rfl rfl kg)]
        intro K hK
        have q13 := hout 13 (outB_spec (by kernel_rfl))
        exact wp_ld45 _ g13 X1 rx rfl q13 (LB.ext GX.out hI) (hK _ hI)
      · have kg := (hdep ⟨39, .guard⟩ (by simp) rfl).2 _ rfl _ rfl
        rw [if_pos (wanted_of rfl rfl rfl kg)]
        intro K hK
        have q15 := hout 15 (outB_spec (by kernel_rfl))
        exact wp_ld45 _ g15 Z1 rz rfl q15 (LB.ext GZ.out hI) (hK _ hI)
      · have kg := (hdep ⟨39, .guard⟩ (by simp) rfl).2 _ rfl _ rfl
        rw [if_pos (wanted_of rfl rfl rfl kg)]
        intro K hK
        have q86 := (hdep ⟨40, .data⟩ (by simp) rfl).2 _ rfl _ rfl
        have q86 : a.tmps.getD 86 undef = LV X1 rx := q86
        have q87 := (hdep ⟨41, .data⟩ (by simp) rfl).2 _ rfl _ rfl
        have q87 : a.tmps.getD 87 undef = LV Z1 rz := q87
        clear hsz hdep hout hun kg
        go_simp
        refine (SM.out _ hI).mono ?_
        rintro e w3 ⟨rfl, x3⟩
        exact hK _ (Ex.trans hI x3)
      · have kg := (hdep ⟨39, .guard⟩ (by simp) rfl).2 _ rfl _ rfl
        rw [if_pos (wanted_of rfl rfl rfl kg)]
        intro K hK
        have q13 := hout 13 (outB_spec (by kernel_rfl))
        clear hsz hdep hout hun kg
        go_simp
        exact hK _ (by exact hI)
      · have kg := (hdep ⟨39, .guard⟩ (by simp) rfl).2 _ rfl _ rfl
        rw [if_pos (wanted_of rfl rfl rfl kg)]
        intro K hK
        have q89 := (hdep ⟨43, .data⟩ (by simp) rfl).2 _ rfl _ rfl
        have q89 : a.tmps.getD 89 undef = .pointer (some ⟨g13, 0, none⟩) := q89
        have f1 : w2.cell? ⟨g13, 0, none⟩ = some (.int .u64 X1) := Bk.cell (LB.ext GX.out hI) 0
        clear hsz hdep hout hun kg
        go_simp
        exact hK _ hI
      · have kg := (hdep ⟨39, .guard⟩ (by simp) rfl).2 _ rfl _ rfl
        rw [if_pos (wanted_of rfl rfl rfl kg)]
        intro K hK
        have q15 := hout 15 (outB_spec (by kernel_rfl))
        clear hsz hdep hout hun kg
        go_simp
        exact hK _ (by exact hI)
      · have kg := (hdep ⟨39, .guard⟩ (by simp) rfl).2 _ rfl _ rfl
        rw [if_pos (wanted_of rfl rfl rfl kg)]
        intro K hK
        have q91 := (hdep ⟨45, .data⟩ (by simp) rfl).2 _ rfl _ rfl
        have q91 : a.tmps.getD 91 undef = .pointer (some ⟨g15, 0, none⟩) := q91
        have f1 : w2.cell? ⟨g15, 0, none⟩ = some (.int .u64 Z1) := Bk.cell (LB.ext GZ.out hI) 0
        clear hsz hdep hout hun kg
        go_simp
        exact hK _ hI
      · have kg := (hdep ⟨39, .guard⟩ (by simp) rfl).2 _ rfl _ rfl
        rw [if_pos (wanted_of rfl rfl rfl kg)]
        intro K hK
        have q90 := (hdep ⟨44, .data⟩ (by simp) rfl).2 _ rfl _ rfl
        have q90 : a.tmps.getD 90 undef = .int .u64 X1 := q90
        have q92 := (hdep ⟨46, .data⟩ (by simp) rfl).2 _ rfl _ rfl
        have q92 : a.tmps.getD 92 undef = .int .u64 Z1 := q92
        clear hsz hdep hout hun kg
        go_simp
        exact hK _ (by exact hI)
      · have kg := (hdep ⟨39, .guard⟩ (by simp) rfl).2 _ rfl _ rfl
        rw [if_pos (wanted_of rfl rfl rfl kg)]
        intro K hK
        have q93 := (hdep ⟨47, .data⟩ (by simp) rfl).2 _ rfl _ rfl
        have q93 : a.tmps.getD 93 undef = .bool false := q93
        clear hsz hdep hout hun kg
        go_simp
        exact hK _ (by exact hI)
      · have kg := (hdep ⟨48, .guard⟩ (by simp) rfl).2 _ rfl _ rfl
        rw [if_neg (not_wanted rfl rfl rfl kg (by decide))]
        exact ⟨rfl, by exact hI⟩
      · have kg := (hdep ⟨48, .guard⟩ (by simp) rfl).2 _ rfl _ rfl
        rw [if_neg (not_wanted rfl rfl rfl kg (by decide))]
        exact ⟨rfl, by exact hI⟩
      · have kg := (hdep ⟨48, .guard⟩ (by simp) rfl).2 _ rfl _ rfl
        rw [if_neg (not_wanted rfl rfl rfl kg (by decide))]
        exact ⟨rfl, by exact hI⟩
      · have kg := (hdep ⟨48, .guard⟩ (by simp) rfl).2 _ rfl _ rfl
        rw [if_neg (not_wanted rfl rfl rfl kg (by decide))]
        exact ⟨rfl, by exact hI⟩
      · have kg := (hdep ⟨48, .guard⟩ (by simp) rfl).2 _ rfl _ rfl
        rw [if_neg (not_wanted rfl rfl rfl kg (by decide))]
        exact ⟨rfl, by exact hI⟩
      · have kg := (hdep ⟨39, .guard⟩ (by simp) rfl).2 _ rfl _ rfl
        rw [if_pos (wanted_of rfl rfl rfl kg)]
        intro K hK
        have q94 := (hdep ⟨48, .data⟩ (by simp) rfl).2 _ rfl _ rfl
        have q94 : a.tmps.getD 94 undef = .bool false := q94
        have q99 := (hdep ⟨53, .data⟩ (by simp) rfl).2 _ rfl _ rfl
        have q99 : a.tmps.getD 99 undef = undef := q99
        clear hsz hdep hout hun kg
        go_simp
        exact hK _ (by exact hI)
      · have kg := (hdep ⟨39, .guard⟩ (by simp) rfl).2 _ rfl _ rfl
        rw [if_pos (wanted_of rfl rfl rfl kg)]
        intro K hK
        have q88 := (hdep ⟨42, .data⟩ (by simp) rfl).2 _ rfl _ rfl
        have q88 : a.tmps.getD 88 undef = .bool false := q88
        have q100 := (hdep ⟨54, .data⟩ (by simp) rfl).2 _ rfl _ rfl
        have q100 : a.tmps.getD 100 undef = .bool false := q100
        clear hsz hdep hout hun kg
        go_simp
        exact hK _ (by exact hI)
      · rw [if_pos (by rfl)]
        intro K hK
        have q85 := (hdep ⟨39, .data⟩ (by simp) rfl).2 _ rfl _ rfl
        have q85 : a.tmps.getD 85 undef = .bool true := q85
        have q101 := (hdep ⟨55, .data⟩ (by simp) rfl).2 _ rfl _ rfl
        have q101 : a.tmps.getD 101 undef = .bool true := q101
        clear hsz hdep hout hun
        go_simp
        exact hK _ (by exact hI)
      · rw [if_pos (by rfl)]
        intro K hK
        have q102 := (hdep ⟨56, .data⟩ (by simp) rfl).2 _ rfl _ rfl
        have q102 : a.tmps.getD 102 undef = .bool true := q102
        clear hsz hdep hout hun
        go_simp
        exact hK _ (by exact hI)
      · have kg := (hdep ⟨57, .guard⟩ (by simp) rfl).2 _ rfl _ rfl
        rw [if_pos (wanted_of rfl rfl rfl kg)]
        intro K hK
        clear hsz hdep hout hun kg
        go_simp
        refine (KN.out _ hI).mono ?_
        rintro e w3 ⟨rfl, x3⟩
        exact hK _ (Ex.trans hI x3)
      · rw [if_pos (by rfl)]
        intro K hK
        have q103 := (hdep ⟨57, .data⟩ (by simp) rfl).2 _ rfl _ rfl
        have q103 : a.tmps.getD 103 undef = .bool true := q103
        have q104 := (hdep ⟨58, .data⟩ (by simp) rfl).2 _ rfl _ rfl
        have q104 : a.tmps.getD 104 undef = .bool true := q104
        clear hsz hdep hout hun
        go_simp
        exact hK _ (by exact hI)
      · rw [if_pos (by rfl)]
        intro K hK
        have q105 := (hdep ⟨59, .data⟩ (by simp) rfl).2 _ rfl _ rfl
        have q105 : a.tmps.getD 105 undef = .bool true := q105
        clear hsz hdep hout hun
        go_simp
        exact hK _ (by exact hI)
    · intro l a w4 hall hI hdef hsz h1 h2
      have f6 : a.tmps[12]?.getD undef = .bool true := by
        rw [← Array.getD_eq_getD_getElem?, h1 60 _ rfl 12 rfl, hV]; rfl
      have fd : a.defers = [] := hdef
      clear h1 h2 hV hall hsz hdef
      have bw4 : Ex w w4 := Ex.trans bw hI
      go_wp2_with fail
      exact bodyPost_ret (v := .bool true) (by simp [results, Try.results7, go_sem, f6]) fd ⟨rfl, bw4⟩
end Go.Proofs.Ytgoiidpcdifojaa
