/- Ry -/
import Derived.Test.YtmjfnpmnhehnkaaQbm
set_option maxRecDepth 100000
set_option maxHeartbeats 16000000
namespace Go.Proofs.Ytmjfnpmnhehnkaa
open Go.RowKit
theorem numbers16 (w : World) : Calls Try.prog 3 #[] w fun e w' => e = .returned (.bool true) ∧ Ex w w' := by
  go_enter Try.func3, Try.ntmps3
  go_wp2_with fail
  go_loopw [1] (fun i wr => ∃ a : Int, -1 ≤ a ∧ a ≤ 10 ∧ i = .int .i64 a ∧ Hid (Ex w wr)) (fun i _ => (10 - intOf i).toNat)
  case atStart => exact ⟨-1, by omega, by omega, rfl, Hi (Ex.refl _)⟩
  rename World => wo
  obtain ⟨a, ha0, ha, rfl, BX⟩ := hrel
  by_cases hlt : a < 10
  · go_wp2_with fail
    go_loopw [2] (fun i wr => ∃ b : Int, -1 ≤ b ∧ b ≤ 11 ∧ i = .int .i64 b ∧ Hid (Ex w wr)) (fun i _ => (11 - intOf i).toNat)
    case atStart => exact ⟨-1, by omega, by omega, rfl, BX⟩
    clear BX
    rename World => wi
    obtain ⟨b, hb0, hb, rfl, BX⟩ := hrel
    by_cases hlb : b < 11
    · go_wp2_with fail
      refine (play16_nil a b ⟨by omega, by omega⟩ ⟨by omega, by omega⟩ wi).mono ?_
      rintro e w2 ⟨rfl, x2⟩
      replace BX := Hi (Ex.trans BX.out x2)
      clear x2
      go_wp2_with fail
      (first | (refine ⟨?_, ?measure⟩; (repeat apply Exists.intro); refine ⟨?rel, rfl⟩) | refine ⟨?rel, ?measure⟩)
      case rel => exact ⟨b + 1, by omega, by omega, by go_num, BX⟩
      case measure => simp [intOf]; omega
    obtain rfl : b = 11 := by omega
    go_wp2_with fail
    (first | (refine ⟨?_, ?measure⟩; (repeat apply Exists.intro); refine ⟨?rel, rfl⟩) | refine ⟨?rel, ?measure⟩)
    case rel => exact ⟨a + 1, by omega, by omega, by go_num, BX⟩
    case measure => simp [intOf]; omega
  obtain rfl : a = 10 := by omega
  go_wp2_with fail
  go_loopw [3, 4] (fun v i wr => ∃ (k : Nat) (l : List Aw), k ≤ 58 ∧ i = .int .i64 k ∧ Hid (ARow wr w.heap.size v l ∧ l.length = k) ∧ Hid (Ex w wr)) (fun _ i _ => 58 - (intOf i).toNat)
  case atStart => exact ⟨0, [], by omega, rfl, Hi ⟨ARow.nil _ _, rfl⟩, BX⟩
  clear BX
  rename World => wc
  obtain ⟨k, l, hk, rfl, VR, BX⟩ := hrel
  by_cases hlk : k < 58
  · have q0 : (0 : Int) ≤ (k : Int) := by omega
    have q1 : (k : Int) < 58 := by omega
    obtain ⟨ma, hma⟩ : ∃ r : Nat, r = k % 10 := ⟨_, rfl⟩
    have tma : (k : Int).tmod 10 = (ma : Int) := by rw [Int.tmod_eq_emod_of_nonneg (by omega), hma]; omega
    have lma : ma < 10 := by omega
    clear hma
    obtain ⟨mb, hmb⟩ : ∃ r : Nat, r = k * 7 % 5 := ⟨_, rfl⟩
    have tmb : ((k : Int) * 7).tmod 5 = (mb : Int) := by rw [Int.tmod_eq_emod_of_nonneg (by omega), hmb]; omega
    have lmb : mb < 5 := by omega
    clear hmb
    obtain ⟨mc, hmc⟩ : ∃ r : Nat, r = k % 5 := ⟨_, rfl⟩
    have tmc : (k : Int).tmod 5 = (mc : Int) := by rw [Int.tmod_eq_emod_of_nonneg (by omega), hmc]; omega
    have lmc : mc < 5 := by omega
    clear hmc
    obtain ⟨mdd, hmdd⟩ : ∃ r : Nat, r = k * 5 % 6 := ⟨_, rfl⟩
    have tmdd : ((k : Int) * 5).tmod 6 = (mdd : Int) := by rw [Int.tmod_eq_emod_of_nonneg (by omega), hmdd]; omega
    have lmdd : mdd < 6 := by omega
    clear hmdd
    obtain ⟨me, hme⟩ : ∃ r : Nat, r = k * 3 % 16 := ⟨_, rfl⟩
    have tme : ((k : Int) * 3).tmod 16 = (me : Int) := by rw [Int.tmod_eq_emod_of_nonneg (by omega), hme]; omega
    have lme : me < 16 := by omega
    clear hme
    obtain ⟨mf, hmf⟩ : ∃ r : Nat, r = k % 3 := ⟨_, rfl⟩
    have tmf : (k : Int).tmod 3 = (mf : Int) := by rw [Int.tmod_eq_emod_of_nonneg (by omega), hmf]; omega
    have lmf : mf < 3 := by omega
    clear hmf
    obtain ⟨mh, hmh⟩ : ∃ r : Nat, r = k % 4 := ⟨_, rfl⟩
    have tmh : (k : Int).tmod 4 = (mh : Int) := by rw [Int.tmod_eq_emod_of_nonneg (by omega), hmh]; omega
    have lmh : mh < 4 := by omega
    clear hmh
    go_wp2_with (first | (with_reducible refine stop_bs (t := 28) ?_) | (with_reducible refine stop_bs (t := 23) ?_) | (with_reducible refine stop_bs (t := 44) ?_) | (with_reducible refine stop_slice ?_) | (with_reducible refine stop_app ?_) | ((with_reducible refine so4 [4000 + 27, 4000 + 30, 4000 + 41, 4000 + 39, 39, 1000 + 39] ?_ ?_); (focus rfl)))
    refine at9 (by go_simp) fun K0 hK => wp_build _ _ rfl _ (built_kvA (k : Int)) (hK _ _ ?_)
    clear hK
    go_wp2_with (first | (with_reducible refine stop_bs (t := 28) ?_) | (with_reducible refine stop_bs (t := 23) ?_) | (with_reducible refine stop_bs (t := 44) ?_) | (with_reducible refine stop_slice ?_) | (with_reducible refine stop_app ?_) | ((with_reducible refine so4 [4000 + 27, 4000 + 30, 4000 + 41, 4000 + 39, 39, 1000 + 39] ?_ ?_); (focus rfl)))
    refine at9 (by go_simp) fun K0 hK => wp_build _ _ rfl _ built_kv1 (hK _ _ ?_)
    clear hK
    go_wp2_with (first | (with_reducible refine stop_bs (t := 28) ?_) | (with_reducible refine stop_bs (t := 23) ?_) | (with_reducible refine stop_bs (t := 44) ?_) | (with_reducible refine stop_slice ?_) | (with_reducible refine stop_app ?_) | ((with_reducible refine so4 [4000 + 27, 4000 + 30, 4000 + 41, 4000 + 39, 39, 1000 + 39] ?_ ?_); (focus rfl)))
    refine at9 (by go_simp) fun K0 hK => wp_build _ _ rfl _ built_kv2 (hK _ _ ?_)
    clear hK
    go_wp2_with (first | (with_reducible refine stop_bs (t := 28) ?_) | (with_reducible refine stop_bs (t := 23) ?_) | (with_reducible refine stop_bs (t := 44) ?_) | (with_reducible refine stop_slice ?_) | (with_reducible refine stop_app ?_) | ((with_reducible refine so4 [4000 + 27, 4000 + 30, 4000 + 41, 4000 + 39, 39, 1000 + 39] ?_ ?_); (focus rfl)))
    refine at9 (by go_simp) fun K0 hK => wp_bs2 28 27 _ 8 80 _ _ kv1.C kv2.C rfl Try.underlying28 Try.infoKV9 rfl (by decide) (by decide) rfl rfl rfl rfl (hK _ _ ?_)
    clear hK
    have xa : Ex wc (wc.alloc (.cells (kv1.C ++ kv2.C).toArray 27)) := Ex.alloc _ _
    have NB := Hi (Bk.new (g := wc.heap.size) (w := wc) rfl 27 (kv1.C ++ kv2.C).toArray)
    generalize hw4 : (wc.alloc (.cells (kv1.C ++ kv2.C).toArray 27)) = w4 at *
    obtain ⟨g, hg⟩ : ∃ z, z = wc.heap.size := ⟨_, rfl⟩
    rw [← hg] at NB ⊢
    replace VR := Hi (And.intro (VR.out.1.ext xa) VR.out.2)
    replace BX := Hi (Ex.trans BX.out xa)
    clear hw4 xa hg
    go_wp2_with (first | (with_reducible refine stop_bs (t := 28) ?_) | (with_reducible refine stop_bs (t := 23) ?_) | (with_reducible refine stop_bs (t := 44) ?_) | (with_reducible refine stop_slice ?_) | (with_reducible refine stop_app ?_) | ((with_reducible refine so4 [4000 + 27, 4000 + 30, 4000 + 41, 4000 + 39, 39, 1000 + 39] ?_ ?_); (focus rfl)))
    refine at9 (by go_simp) fun K0 hK => wp_sl_h 28 _ _ rfl Try.slKV 8 Try.szKV (some ⟨g, 0, none⟩) 2 2 mf rfl rfl (by omega) (hK _ _ ?_)
    clear hK
    rw [show sliced (some ⟨g, 0, none⟩) 0 mf 2 8 = .slice (some ⟨g, 0, none⟩) mf 2 from by simp [sliced, go_sem]]
    go_wp2_with (first | (with_reducible refine stop_bs (t := 28) ?_) | (with_reducible refine stop_bs (t := 23) ?_) | (with_reducible refine stop_bs (t := 44) ?_) | (with_reducible refine stop_slice ?_) | (with_reducible refine stop_app ?_) | ((with_reducible refine so4 [4000 + 27, 4000 + 30, 4000 + 41, 4000 + 39, 39, 1000 + 39] ?_ ?_); (focus rfl)))
    refine at9 (by go_simp) fun K0 hK => wp_build _ _ rfl _ (built_rrA (mdd : Int) (me : Int) (mf : Int) (mh : Int) (k : Int) g mf) (hK _ _ ?_)
    clear hK
    have hml : ([kv1, kv2].take mf).length = mf := by rw [List.length_take]; show min mf 2 = mf; omega
    rw [show (([.int .i64 (mdd : Int), .int .i64 (me : Int), .int .i64 (mf : Int), .int .u64 (mh : Int)] : List Value) ++ (kvA (k : Int)).C ++ [Value.slice (some ⟨g, 0, none⟩) mf 2]) = (rrA mdd me mf mh k g mf).C from by unfold Rr.C rrA; simp only [hml]]
    go_wp2_with (first | (with_reducible refine stop_bs (t := 28) ?_) | (with_reducible refine stop_bs (t := 23) ?_) | (with_reducible refine stop_bs (t := 44) ?_) | (with_reducible refine stop_slice ?_) | (with_reducible refine stop_app ?_) | ((with_reducible refine so4 [4000 + 27, 4000 + 30, 4000 + 41, 4000 + 39, 39, 1000 + 39] ?_ ?_); (focus rfl)))
    refine at9 (by go_simp) fun K0 hK => wp_build _ _ rfl _ (built_awA (ma : Int) (mb : Int) (mc : Int) (k : Int) (rrA mdd me mf mh k g mf)) (hK _ _ ?_)
    clear hK
    obtain ⟨X, hX⟩ : ∃ X : Aw, X = awA ma mb mc mdd me mf mh k g mf := ⟨_, rfl⟩
    rw [show (⟨(ma : Int), (mb : Int), (mc : Int), (k : Int), rrA mdd me mf mh k g mf, zeroRk⟩ : Aw) = X from hX.symm]
    have HXO : Hid (AN w4 X) := Hi ⟨ma, mb, mc, mdd, me, mf, mh, k, g, mf, hX, by omega, by omega, by omega, by omega, by omega, by omega, by omega, by omega, by omega, NB.out⟩
    clear hX NB hml
    go_wp2_with (first | (with_reducible refine stop_bs (t := 28) ?_) | (with_reducible refine stop_bs (t := 23) ?_) | (with_reducible refine stop_bs (t := 44) ?_) | (with_reducible refine stop_slice ?_) | (with_reducible refine stop_app ?_) | ((with_reducible refine so4 [4000 + 27, 4000 + 30, 4000 + 41, 4000 + 39, 39, 1000 + 39] ?_ ?_); (focus rfl)))
    refine at9 (by go_simp) fun K0 hK => wp_bs1 23 41 _ 64 320 _ X.C rfl Try.underlying23 Try.infoAw rfl (by decide) (by decide) HXO.out.len rfl (hK _ _ ?_)
    clear hK
    have xa : Ex w4 (w4.alloc (.cells X.C.toArray 41)) := Ex.alloc _ _
    have NB := Hi (Bk.new (g := w4.heap.size) (w := w4) rfl 41 X.C.toArray)
    replace HXO := Hi (HXO.out.ext xa)
    replace VR := Hi (And.intro (VR.out.1.ext xa) VR.out.2)
    replace BX := Hi (Ex.trans BX.out xa)
    generalize hw6 : (w4.alloc (.cells X.C.toArray 41)) = w6 at *
    obtain ⟨g2, hg⟩ : ∃ g, g = w4.heap.size := ⟨_, rfl⟩
    rw [← hg] at NB ⊢
    clear hw6 hg xa
    have MR := Hi (Many.rd (n := 1) (sz := 64) ⟨g2, rfl, NB.out⟩ (by rw [HXO.out.len]))
    go_wp2_with (first | (with_reducible refine stop_bs (t := 28) ?_) | (with_reducible refine stop_bs (t := 23) ?_) | (with_reducible refine stop_bs (t := 44) ?_) | (with_reducible refine stop_slice ?_) | (with_reducible refine stop_app ?_) | ((with_reducible refine so4 [4000 + 27, 4000 + 30, 4000 + 41, 4000 + 39, 39, 1000 + 39] ?_ ?_); (focus rfl)))
    obtain ⟨adx, ex, nx9, rx⟩ := MR.out
    cases ex
    have RX := Hi rx
    clear rx nx9 MR
    refine at9 (by go_simp) fun K0 hK => wp_rd _ _ 23 41 zeroAw 64 320 rfl Try.underlying23 Try.infoAw rfl (by decide) w.heap.size l.length _ _ rfl VR.out.1.row BX.out.sz' _ 1 1 _ rfl RX.out (Nat.le_refl _) (fun h => by cases h) (Aw.C_one X) (by have := VR.out.2; omega) (by have := VR.out.2; omega) (fun v5 w7 r1 r2 => hK _ _ ?_)
    clear hK
    replace BX := Hi (show Ex w w7 from Below.trans (show Below w.heap.size w _ from BX.out) r2.below)
    have VR2 : Hid (ARow w7 w.heap.size v5 (l ++ [X]) ∧ (l ++ [X]).length = k + 1) := Hi ⟨VR.out.1.app r2 r1 HXO.out, by rw [List.length_append, VR.out.2]; rfl⟩
    clear r1 r2 VR HXO
    go_wp2_with fail
    (first | (refine ⟨?_, ?measure⟩; (repeat apply Exists.intro); refine ⟨?rel, rfl⟩) | refine ⟨?rel, ?measure⟩)
    case rel => exact ⟨k + 1, l ++ [X], by omega, by go_num, VR2, BX⟩
    case measure => simp [intOf]; omega
  obtain rfl : k = 58 := by omega
  obtain ⟨ad, cap, hv, hin⟩ := VR.out.1.inn
  subst hv
  have HIN := Hi hin
  have HL := Hi VR.out.2
  clear hin VR
  obtain ⟨nn, hn⟩ : ∃ z, z = l.length := ⟨_, rfl⟩
  have HN := Hi hn
  rw [← hn]
  clear hn
  go_wp2_with fail
  refine (snew_any 0 3 wc (by decide)).mono ?_
  rintro e w1 ⟨M, D, r0, v0, rfl, hs, hM, hv, x1⟩
  have HS0 := Hi hs
  have HM := Hi hM
  have X1 := Hi x1
  clear hs hM hv x1
  go_wp2_with (first | (with_reducible refine stop_bs (t := 28) ?_) | (with_reducible refine stop_bs (t := 23) ?_) | (with_reducible refine stop_bs (t := 44) ?_) | (with_reducible refine stop_slice ?_) | (with_reducible refine stop_app ?_) | ((with_reducible refine so4 [4000 + 27, 4000 + 30, 4000 + 41, 4000 + 39, 39, 1000 + 39] ?_ ?_); (focus rfl)))
  refine at9 (by go_simp) fun K0 hK => wp_build _ _ rfl _ built_rN0 (hK _ _ ?_)
  clear hK
  go_wp2_with (first | (with_reducible refine stop_bs (t := 28) ?_) | (with_reducible refine stop_bs (t := 23) ?_) | (with_reducible refine stop_bs (t := 44) ?_) | (with_reducible refine stop_slice ?_) | (with_reducible refine stop_app ?_) | ((with_reducible refine so4 [4000 + 27, 4000 + 30, 4000 + 41, 4000 + 39, 39, 1000 + 39] ?_ ?_); (focus rfl)))
  refine at9 (by go_simp) fun K0 hK => wp_build _ _ rfl _ built_rN1 (hK _ _ ?_)
  clear hK
  go_wp2_with (first | (with_reducible refine stop_bs (t := 28) ?_) | (with_reducible refine stop_bs (t := 23) ?_) | (with_reducible refine stop_bs (t := 44) ?_) | (with_reducible refine stop_slice ?_) | (with_reducible refine stop_app ?_) | ((with_reducible refine so4 [4000 + 27, 4000 + 30, 4000 + 41, 4000 + 39, 39, 1000 + 39] ?_ ?_); (focus rfl)))
  refine at9 (by go_simp) fun K0 hK => wp_build _ _ rfl _ built_rN2 (hK _ _ ?_)
  clear hK
  go_wp2_with (first | (with_reducible refine stop_bs (t := 28) ?_) | (with_reducible refine stop_bs (t := 23) ?_) | (with_reducible refine stop_bs (t := 44) ?_) | (with_reducible refine stop_slice ?_) | (with_reducible refine stop_app ?_) | ((with_reducible refine so4 [4000 + 27, 4000 + 30, 4000 + 41, 4000 + 39, 39, 1000 + 39] ?_ ?_); (focus rfl)))
  refine at9 (by go_simp) fun K0 hK => wp_build _ _ rfl _ built_rN3 (hK _ _ ?_)
  clear hK
  go_wp2_with (first | (with_reducible refine stop_bs (t := 28) ?_) | (with_reducible refine stop_bs (t := 23) ?_) | (with_reducible refine stop_bs (t := 44) ?_) | (with_reducible refine stop_slice ?_) | (with_reducible refine stop_app ?_) | ((with_reducible refine so4 [4000 + 27, 4000 + 30, 4000 + 41, 4000 + 39, 39, 1000 + 39] ?_ ?_); (focus rfl)))
  refine at9 (by go_simp) fun K0 hK => wp_bs4 44 39 _ 47 152 _ _ _ _ (rN 0).C (rN 1).C (rN 2).C (rN 3).C rfl Try.underlying44 Try.infoRC9 rfl (by decide) (by decide) rfl rfl rfl rfl rfl rfl rfl rfl (hK _ _ ?_)
  clear hK
  rw [show (rN 0).C ++ ((rN 1).C ++ ((rN 2).C ++ (rN 3).C)) = r4C from rfl]
  have xa : Ex w1 (w1.alloc (.cells r4C.toArray 39)) := Ex.alloc _ _
  have NB := Hi (Bk.new (g := w1.heap.size) (w := w1) rfl 39 r4C.toArray)
  replace HS0 := Hi (HS0.out.ext xa)
  replace X1 := Hi (Ex.trans X1.out xa)
  generalize hw2 : (w1.alloc (.cells r4C.toArray 39)) = w2 at *
  obtain ⟨g, hg⟩ : ∃ z, z = w1.heap.size := ⟨_, rfl⟩
  rw [← hg] at NB ⊢
  clear hw2 hg xa
  go_wp2_with fail
  go_loopw [70] (fun i wr => ∃ (j : Nat) (p : Nat → Pa) (r : Nat → Value) (v : Nat → List Vt), j ≤ 4 ∧ i = .int .i64 j ∧ Hid (SS wr wc.heap.size M 0 3 p D r v) ∧ Hid (p 3 = qN j) ∧ Hid (Bk wr g 39 r4C.toArray) ∧ Hid (Ex wc wr)) (fun i _ => 4 - (intOf i).toNat)
  case atStart => exact ⟨0, newP 0 3, r0, v0, by omega, rfl, HS0, Hi rfl, NB, X1⟩
  clear HS0 NB X1
  obtain ⟨j, p, r, v, hj, rfl, HS, HP, NB, X1⟩ := hrel
  by_cases hlj : j < 4
  · have j0 : (0 : Int) ≤ (j : Int) := by omega
    have j1 : (j : Int) < 4 := by omega
    go_wp2_with (first | (with_reducible refine stop_bs (t := 28) ?_) | (with_reducible refine stop_bs (t := 23) ?_) | (with_reducible refine stop_bs (t := 44) ?_) | (with_reducible refine stop_slice ?_) | (with_reducible refine stop_app ?_) | ((with_reducible refine so4 [4000 + 27, 4000 + 30, 4000 + 41, 4000 + 39, 39, 1000 + 39] ?_ ?_); (focus rfl)))
    refine at9 (by go_simp) fun K0 hK => ld_rN _ g j hlj rfl rfl NB.out (hK _ _ ?_)
    clear hK
    go_wp2_with (first | (with_reducible refine stop_bs (t := 28) ?_) | (with_reducible refine stop_bs (t := 23) ?_) | (with_reducible refine stop_bs (t := 44) ?_) | (with_reducible refine stop_slice ?_) | (with_reducible refine stop_app ?_) | ((with_reducible refine so4 [4000 + 27, 4000 + 30, 4000 + 41, 4000 + 39, 39, 1000 + 39] ?_ ?_); (focus rfl)))
    refine at9 (by go_simp) fun K0 hK => st_rk _ _ wr.heap.size (rN j) rfl rfl rfl (rN_in j hlj wr).v.ok (Bk.new rfl _ _) (by rfl) (fun w3 hd ho => hK _ _ ?_)
    clear hK
    have x3 : Ex wr w3 := ho.below wr.heap.size (Nat.le_refl _) wr (Ex.alloc wr _)
    obtain ⟨g3, hg⟩ : ∃ z, z = wr.heap.size := ⟨_, rfl⟩
    rw [← hg] at hd ⊢
    have HG := Hi hd
    replace HS := Hi (HS.out.ext x3)
    replace NB := Hi (NB.out.ext x3)
    replace X1 := Hi (Ex.trans X1.out x3)
    clear hd ho x3 hg
    go_wp2_with (first | (with_reducible refine stop_bs (t := 28) ?_) | (with_reducible refine stop_bs (t := 23) ?_) | (with_reducible refine stop_bs (t := 44) ?_) | (with_reducible refine stop_slice ?_) | (with_reducible refine stop_app ?_) | ((with_reducible refine so4 [4000 + 27, 4000 + 30, 4000 + 41, 4000 + 39, 39, 1000 + 39] ?_ ?_); (focus rfl)))
    refine at9 (by go_simp) fun K0 hK => ld_rk _ g3 (rN j) rfl rfl HG.out (hK _ _ ?_)
    clear hK
    go_wp2_with fail
    refine (sapply_all wc.heap.size M 0 3 p D r v (rN j) w3 (rN_in j hlj w3) (fun wa wb _ _ => by
      obtain ⟨e1, e2, e3⟩ := rN_l j hlj
      rw [e1, e2, e3]
      exact ⟨⟨Nat.le_refl _, fun _ => rfl, fun i x hx => by simp at hx, fun h => absurd h (Nat.lt_irrefl 0)⟩, fun i y hy => by simp at hy⟩) HS.out).mono ?_
    rintro e w4 ⟨E, p2, r2, v2, rfl, st, hs2, fr, _⟩
    obtain ⟨he, hp2⟩ := rN_step j hlj st HP.out
    subst he
    have HS2 := Hi hs2
    have HP2 := Hi hp2
    have NB2 := Hi (fr.typ HS.out NB.out (by decide) (by decide) (by decide))
    have X2 := Hi (fr.ex HS.out HM.out (Nat.le_refl _) X1.out)
    clear st hs2 fr hp2 HS NB X1 HP
    go_wp2_with fail
    (first | (refine ⟨?_, ?measure⟩; (repeat apply Exists.intro); refine ⟨?rel, rfl⟩) | refine ⟨?rel, ?measure⟩)
    case rel => exact ⟨j + 1, p2, r2, v2, by omega, by go_num, HS2, HP2, NB2, X2⟩
    case measure => simp [intOf]; omega
  obtain rfl : j = 4 := by omega
  go_wp2_with fail
  refine (role_any wc.heap.size M 0 3 p D r v 3 (by decide) wr HS.out).mono ?_
  rw [HP.out]
  rintro e w3 ⟨rfl, x3⟩
  replace X1 := Hi (Ex.trans X1.out x3)
  clear x3
  go_wp2_with fail
  rw [HN.out]
  refine (play16 0 1 ⟨by decide, by decide⟩ ⟨by decide, by decide⟩ ad cap l _ (by rw [HL.out]; decide) (HIN.out.ext X1.out)).mono ?_
  rw [← HN.out]
  rintro e w4 ⟨rfl, x4⟩
  replace X1 := Hi (Ex.trans X1.out x4)
  clear x4
  go_wp2_with fail
  rw [HN.out]
  refine (play16 1 3 ⟨by decide, by decide⟩ ⟨by decide, by decide⟩ ad cap l _ (by rw [HL.out]; decide) (HIN.out.ext X1.out)).mono ?_
  rw [← HN.out]
  rintro e w4 ⟨rfl, x4⟩
  replace X1 := Hi (Ex.trans X1.out x4)
  clear x4
  go_wp2_with fail
  rw [HN.out]
  refine (play16 7 8 ⟨by decide, by decide⟩ ⟨by decide, by decide⟩ ad cap l _ (by rw [HL.out]; decide) (HIN.out.ext X1.out)).mono ?_
  rw [← HN.out]
  rintro e w4 ⟨rfl, x4⟩
  replace X1 := Hi (Ex.trans X1.out x4)
  clear x4
  go_wp2_with fail
  refine (known16 _).mono ?_
  rintro e w5 ⟨rfl, x5⟩
  replace X1 := Hi (Ex.trans BX.out (Ex.trans X1.out x5))
  clear x5
  go_wp2_with fail
  go_ret
  exact ⟨rfl, X1.out⟩
end Go.Proofs.Ytmjfnpmnhehnkaa
