/- same of chapter 15's statements -/
import Derived.Test.YtgoiidpcdifojaaEn
import Derived.Test.YtgoiidpcdifojaaEi
import Derived.Test.YtgoiidpcdifojaaRoP
namespace Go.Proofs.Ytgoiidpcdifojaa
open Go.RowKit
open Sm (digV DB by8 sumL numL zero16 by8_int Cls cls_load_mid wp_region_cls byteCells_len)
set_option maxHeartbeats 8000000 in
set_option maxRecDepth 100000 in
theorem same15_A (C : List UInt8) (hC : C.length = 16) (va vl : Int) (hv0 : 0 ≤ vl) (hv1 : vl < 18446744073709551616) (pa pl : Pt) (q : Vp) (w : World) (ha : pa.In w w.heap.size) (hl : pl.In w w.heap.size) (hq : q.In w w.heap.size) (hL : q.l.length ≤ 9223372036854775807) (hLl : pl.l.length ≤ 9223372036854775807) (hf : followsB va pa.l vl pl.l = false) :
    Calls Try.prog 38 #[digV C, LV va pa, LV vl pl, q.V] w fun e w' => e = .returned (.bool true) ∧ Below w.heap.size w w' := by
  obtain ⟨ma, hma⟩ : ∃ ma : Value, ma = pa.V := ⟨_, rfl⟩
  obtain ⟨ml, hml⟩ : ∃ ml : Value, ml = pl.V := ⟨_, rfl⟩
  obtain ⟨qv, hqv⟩ : ∃ qv, qv = q.V := ⟨_, rfl⟩
  obtain ⟨cN, hcN⟩ : ∃ cN : Int, cN = (chkN C va pa.l vl pl.l q.l : Nat) := ⟨_, rfl⟩
  obtain ⟨cb, hcb⟩ : ∃ cb, cb = chkB C va pa.l vl pl.l q.l := ⟨_, rfl⟩
  have HML := Lib.hid hml
  have FO := Lib.hid (fun W (h : Ex w W) => (show Calls Try.prog 28 #[.agg #[.int .u64 va, ma], .agg #[.int .u64 vl, ml]] W fun e w' => e = .returned (.bool false) ∧ Below W.heap.size W w' by rw [hma, hml, ← hf]; exact follows_any va vl pa pl W (ha.ext h) (hl.ext h) hLl))
  have CH := Lib.hid (fun W (h : Ex w W) => (show Calls Try.prog 43 #[digV C, .agg #[.int .u64 va, ma], .agg #[.int .u64 vl, ml], qv] W fun e w' => e = .returned (.tuple #[.int .i64 cN, .bool cb]) ∧ Below W.heap.size W w' by rw [hma, hml, hcN, hcb, hqv]; exact check_any C hC va vl hv0 hv1 pa pl q W (ha.ext h) (hl.ext h) (hq.ext h) hL))
  have RC := Lib.hid (fun W (h : Ex w W) => (show Calls Try.prog 54 #[digV C, .agg #[.int .u64 va, ma], .agg #[.int .u64 vl, ml], qv] W fun e w' => e = .returned (.tuple #[.int .i64 cN, .bool cb]) ∧ Below W.heap.size W w' by rw [hma, hml, hcN, hcb, hqv]; exact rcheck_any C hC va vl hv0 hv1 pa pl q W (ha.ext h) (hl.ext h) (hq.ext h) hL))
  have AD := Lib.hid (fun W (h : Ex w W) => (show Calls Try.prog 55 #[digV C, .agg #[.int .u64 va, ma], .agg #[.int .u64 vl, ml], qv] W (AdPost 0 [] 1 W) by
    have h := adopt_any C hC va vl hv0 hv1 pa pl q W (ha.ext h) (hl.ext h) (hq.ext h) hL hLl
    unfold adV adL adE at h
    rw [hf] at h
    rw [hma, hml, hqv]; exact h))
  have RL := Lib.hid (fun W (h : Ex w W) => (show Calls Try.prog 49 #[.agg #[.int .u64 vl, ml]] W fun e w' => e = .returned (.bool (rightB vl pl.l)) ∧ Below W.heap.size W w' by rw [hml]; exact right_any vl pl W (hl.ext h)))
  have MK := Lib.hid (fun W (h : Ex w W) => (show Calls Try.prog 56 #[digV C, .agg #[.int .u64 vl, ml]] W fun e w' => e = .returned (.tuple #[digV (markR C vl pl.l), .bool (rightB vl pl.l)]) ∧ Below W.heap.size W w' by rw [hml]; exact mark_any C hC vl hv0 hv1 pl W (hl.ext h)))
  have MR0 := Lib.hid (fun (hr : rightB vl pl.l = true) W (h : Ex w W) => (show Calls Try.prog 57 #[digV C, .agg #[.int .u64 vl, ml]] W fun e w' => e = .returned (digV (markL C vl pl.l)) ∧ Below W.heap.size W w' by rw [hml]; exact rmark_any C hC vl hv0 hv1 pl (right_len hr).2.2.2.1 W (hl.ext h)))
  obtain ⟨cs, hcs⟩ : ∃ cs, cs = (Lib.byteCells C).toArray := ⟨_, rfl⟩
  have d0 : Hid (DB (((w.alloc (.cells cs 59)).alloc (.cells #[.int .u64 va, ma] 45)).alloc (.cells #[.int .u64 vl, ml] 45)) w.heap.size C) := Lib.hid ⟨hC, by rw [hcs]; exact ((Sm.Bk.new rfl _ _).more _).more _⟩
  have a0 : Hid (Bk (((w.alloc (.cells cs 59)).alloc (.cells #[.int .u64 va, ma] 45)).alloc (.cells #[.int .u64 vl, ml] 45)) (w.heap.size + 1) 45 #[.int .u64 va, ma]) := Lib.hid ((Bk.new (by simp) _ _).more _)
  have l0 : Hid (Bk (((w.alloc (.cells cs 59)).alloc (.cells #[.int .u64 va, ma] 45)).alloc (.cells #[.int .u64 vl, ml] 45)) (w.heap.size + 2) 45 #[.int .u64 vl, ml]) := Lib.hid (Bk.new (by simp) _ _)
  have BW := Lib.hid (show Ex w (((w.alloc (.cells cs 59)).alloc (.cells #[.int .u64 va, ma] 45)).alloc (.cells #[.int .u64 vl, ml] 45)) from (((Below.refl _ _).alloc (Nat.le_refl _) _).alloc (by simp) _).alloc (by simp; omega) _)
  rw [show (Calls Try.prog 38 #[digV C, LV va pa, LV vl pl, q.V] w) = (Calls Try.prog 38 #[.agg cs, .agg #[.int .u64 va, ma], .agg #[.int .u64 vl, ml], qv] w) by rw [hcs, hma, hml, hqv]; rfl]
  clear hcs hma hml hqv hv0 hv1 hC ha hq hL hLl hl hf hcN hcb
  go_enter Try.func38, Try.ntmps38
  go_wp2_with (first | (with_reducible refine Sm.stop_load59 ?_) | (with_reducible refine Sm.stop_store59 ?_) | (with_reducible refine stop_load45 ?_) | (with_reducible refine stop_store45 ?_))
  have bw := BW.out
  generalize hw1 : ((w.alloc (.cells cs 59)).alloc (.cells #[.int .u64 va, ma] 45)).alloc (.cells #[.int .u64 vl, ml] 45) = w1 at *
  obtain ⟨B, hB⟩ : ∃ B, B = w.heap.size := ⟨_, rfl⟩
  rw [← hB] at d0 a0 l0 ⊢
  have HB := Lib.hid hB
  clear hw1 hB BW
  have bw := Lib.hid bw
  (with_reducible refine ⟨?_⟩); (with_reducible refine at_any ?_ ?_); (focus go_simp); refine fun K0 hK => Sm.wp_ld _ B C rfl rfl d0.out (hK _ _ ?_)
  clear hK
  go_wp2_with (first | (with_reducible refine Sm.stop_load59 ?_) | (with_reducible refine Sm.stop_store59 ?_) | (with_reducible refine stop_load45 ?_) | (with_reducible refine stop_store45 ?_))
  (with_reducible refine ⟨?_⟩); (with_reducible refine at_any ?_ ?_); (focus go_simp); refine fun K0 hK => wp_ld45g _ (B + 1) _ _ rfl rfl a0.out (hK _ _ ?_)
  clear hK
  go_wp2_with (first | (with_reducible refine Sm.stop_load59 ?_) | (with_reducible refine Sm.stop_store59 ?_) | (with_reducible refine stop_load45 ?_) | (with_reducible refine stop_store45 ?_))
  (with_reducible refine ⟨?_⟩); (with_reducible refine at_any ?_ ?_); (focus go_simp); refine fun K0 hK => wp_ld45g _ (B + 2) _ _ rfl rfl l0.out (hK _ _ ?_)
  clear hK
  have C1 := Lib.hid (CH.out _ bw.out)
  clear CH
  go_wp2_with (first | (with_reducible refine Sm.stop_load59 ?_) | (with_reducible refine Sm.stop_store59 ?_) | (with_reducible refine stop_load45 ?_) | (with_reducible refine stop_store45 ?_))
  refine C1.out.mono ?_
  rintro e w2 ⟨rfl, xr⟩
  replace d0 := Lib.hid (d0.out.ext xr)
  replace a0 := Lib.hid (a0.out.ext xr)
  replace l0 := Lib.hid (l0.out.ext xr)
  replace bw := Lib.hid (Ex.trans bw.out xr)
  clear C1 xr
  go_wp2_with (first | (with_reducible refine Sm.stop_load59 ?_) | (with_reducible refine Sm.stop_store59 ?_) | (with_reducible refine stop_load45 ?_) | (with_reducible refine stop_store45 ?_))
  (with_reducible refine ⟨?_⟩); (with_reducible refine at_any ?_ ?_); (focus go_simp); refine fun K0 hK => Sm.wp_ld _ B C rfl rfl d0.out (hK _ _ ?_)
  clear hK
  go_wp2_with (first | (with_reducible refine Sm.stop_load59 ?_) | (with_reducible refine Sm.stop_store59 ?_) | (with_reducible refine stop_load45 ?_) | (with_reducible refine stop_store45 ?_))
  (with_reducible refine ⟨?_⟩); (with_reducible refine at_any ?_ ?_); (focus go_simp); refine fun K0 hK => wp_ld45g _ (B + 1) _ _ rfl rfl a0.out (hK _ _ ?_)
  clear hK
  go_wp2_with (first | (with_reducible refine Sm.stop_load59 ?_) | (with_reducible refine Sm.stop_store59 ?_) | (with_reducible refine stop_load45 ?_) | (with_reducible refine stop_store45 ?_))
  (with_reducible refine ⟨?_⟩); (with_reducible refine at_any ?_ ?_); (focus go_simp); refine fun K0 hK => wp_ld45g _ (B + 2) _ _ rfl rfl l0.out (hK _ _ ?_)
  clear hK
  have C1 := Lib.hid (RC.out _ bw.out)
  clear RC
  go_wp2_with (first | (with_reducible refine Sm.stop_load59 ?_) | (with_reducible refine Sm.stop_store59 ?_) | (with_reducible refine stop_load45 ?_) | (with_reducible refine stop_store45 ?_))
  refine C1.out.mono ?_
  rintro e w3 ⟨rfl, xr⟩
  replace d0 := Lib.hid (d0.out.ext xr)
  replace a0 := Lib.hid (a0.out.ext xr)
  replace l0 := Lib.hid (l0.out.ext xr)
  replace bw := Lib.hid (Ex.trans bw.out xr)
  clear C1 xr
  go_wp2_with (first | (with_reducible refine Sm.stop_load59 ?_) | (with_reducible refine Sm.stop_store59 ?_) | (with_reducible refine stop_load45 ?_) | (with_reducible refine stop_store45 ?_))
  (with_reducible refine ⟨?_⟩); (with_reducible refine at_any ?_ ?_); (focus go_simp); refine fun K0 hK => Sm.wp_ld _ B C rfl rfl d0.out (hK _ _ ?_)
  clear hK
  go_wp2_with (first | (with_reducible refine Sm.stop_load59 ?_) | (with_reducible refine Sm.stop_store59 ?_) | (with_reducible refine stop_load45 ?_) | (with_reducible refine stop_store45 ?_))
  (with_reducible refine ⟨?_⟩); (with_reducible refine at_any ?_ ?_); (focus go_simp); refine fun K0 hK => wp_ld45g _ (B + 1) _ _ rfl rfl a0.out (hK _ _ ?_)
  clear hK
  go_wp2_with (first | (with_reducible refine Sm.stop_load59 ?_) | (with_reducible refine Sm.stop_store59 ?_) | (with_reducible refine stop_load45 ?_) | (with_reducible refine stop_store45 ?_))
  (with_reducible refine ⟨?_⟩); (with_reducible refine at_any ?_ ?_); (focus go_simp); refine fun K0 hK => wp_ld45g _ (B + 2) _ _ rfl rfl l0.out (hK _ _ ?_)
  clear hK
  have C1 := Lib.hid (AD.out _ bw.out)
  clear AD
  go_wp2_with (first | (with_reducible refine Sm.stop_load59 ?_) | (with_reducible refine Sm.stop_store59 ?_) | (with_reducible refine stop_load45 ?_) | (with_reducible refine stop_store45 ?_))
  refine C1.out.mono ?_
  rintro e w4 ⟨px, rfl, hxl, hx, xr⟩
  replace d0 := Lib.hid (d0.out.ext xr)
  replace a0 := Lib.hid (a0.out.ext xr)
  replace l0 := Lib.hid (l0.out.ext xr)
  replace bw := Lib.hid (Ex.trans bw.out xr)
  have HXL := Lib.hid hxl
  clear C1 xr hxl
  go_wp2_with (first | (with_reducible refine Sm.stop_load59 ?_) | (with_reducible refine Sm.stop_store59 ?_) | (with_reducible refine stop_load45 ?_) | (with_reducible refine stop_store45 ?_))
  (with_reducible refine ⟨?_⟩); (with_reducible refine at_any ?_ ?_); (focus go_simp); refine fun K0 hK => wp_st45 _ _ w4.heap.size 0 0 px nilP rfl rfl rfl (Bk.new rfl _ _) (fun w5 hd ho => hK _ _ ?_)
  have PX := Lib.hid ((hx.ext ((Below.refl _ _).alloc (Nat.le_refl _) _)).st (n := 0) (q := nilP) ho (Bk.new rfl _ _))
  have xs := ho.ex
  obtain ⟨g13, hg13⟩ : ∃ g, g = w4.heap.size := ⟨_, rfl⟩
  rw [← hg13] at hd ⊢
  have A9 := Lib.hid hd
  replace d0 := Lib.hid (d0.out.ext xs)
  replace a0 := Lib.hid (a0.out.ext xs)
  replace l0 := Lib.hid (l0.out.ext xs)
  replace bw := Lib.hid (Ex.trans bw.out xs)
  clear hK ho hd xs hg13 hx
  go_wp2_with (first | (with_reducible refine Sm.stop_load59 ?_) | (with_reducible refine Sm.stop_store59 ?_) | (with_reducible refine stop_load45 ?_) | (with_reducible refine stop_store45 ?_))
  (with_reducible refine ⟨?_⟩); (with_reducible refine at_any ?_ ?_); (focus go_simp); refine fun K0 hK => wp_ld45g _ (B + 1) _ _ rfl rfl a0.out (hK _ _ ?_)
  clear hK
  go_wp2_with (first | (with_reducible refine Sm.stop_load59 ?_) | (with_reducible refine Sm.stop_store59 ?_) | (with_reducible refine stop_load45 ?_) | (with_reducible refine stop_store45 ?_))
  (with_reducible refine ⟨?_⟩); (with_reducible refine at_any ?_ ?_); (focus go_simp); refine fun K0 hK => wp_ld45g _ (B + 2) _ _ rfl rfl l0.out (hK _ _ ?_)
  clear hK
  have C1 := Lib.hid (FO.out _ bw.out)
  clear FO
  go_wp2_with (first | (with_reducible refine Sm.stop_load59 ?_) | (with_reducible refine Sm.stop_store59 ?_) | (with_reducible refine stop_load45 ?_) | (with_reducible refine stop_store45 ?_))
  refine C1.out.mono ?_
  rintro e w6 ⟨rfl, xr⟩
  replace d0 := Lib.hid (d0.out.ext xr)
  replace a0 := Lib.hid (a0.out.ext xr)
  replace l0 := Lib.hid (l0.out.ext xr)
  replace bw := Lib.hid (Ex.trans bw.out xr)
  replace A9 := Lib.hid (LB.ext A9.out xr)
  replace PX := Lib.hid (Pt.In.ext PX.out xr)
  clear C1 xr
  have f0 : w6.cell? ⟨g13, 0, none⟩ = some (.int .u64 0) := Bk.cell A9.out 0
  have f1 : w6.cell? ⟨g13, 1, none⟩ = some px.V := Bk.cell A9.out 1
  unfold Pt.V at f1
  rw [HXL.out] at f1
  have f1 : w6.cell? ⟨g13, 1, none⟩ = some (.slice px.ad 0 px.cap) := f1
  go_wp2_with (first | (with_reducible refine Sm.stop_load59 ?_) | (with_reducible refine Sm.stop_store59 ?_) | (with_reducible refine stop_load45 ?_) | (with_reducible refine stop_store45 ?_))
  (with_reducible refine ⟨?_⟩); (with_reducible refine at_not ?_ ?_); (focus go_simp)
  go_wp2_with (first | (with_reducible refine Sm.stop_load59 ?_) | (with_reducible refine Sm.stop_store59 ?_) | (with_reducible refine stop_load45 ?_) | (with_reducible refine stop_store45 ?_))
  (with_reducible refine ⟨?_⟩); (with_reducible refine at_not ?_ ?_); (focus go_simp)
  go_wp2_with (first | (with_reducible refine Sm.stop_load59 ?_) | (with_reducible refine Sm.stop_store59 ?_) | (with_reducible refine stop_load45 ?_) | (with_reducible refine stop_store45 ?_))
  clear f0 f1 A9 PX a0
  (with_reducible refine ⟨?_⟩); (with_reducible refine at_any ?_ ?_); (focus go_simp); refine fun K0 hK => Sm.wp_ld _ B C rfl rfl d0.out (hK _ _ ?_)
  clear hK
  go_wp2_with (first | (with_reducible refine Sm.stop_load59 ?_) | (with_reducible refine Sm.stop_store59 ?_) | (with_reducible refine stop_load45 ?_) | (with_reducible refine stop_store45 ?_))
  (with_reducible refine ⟨?_⟩); (with_reducible refine at_any ?_ ?_); (focus go_simp); refine fun K0 hK => wp_ld45g _ (B + 2) _ _ rfl rfl l0.out (hK _ _ ?_)
  clear hK
  have MK1 := Lib.hid (MK.out _ bw.out)
  clear MK
  go_wp2_with (first | (with_reducible refine Sm.stop_load59 ?_) | (with_reducible refine Sm.stop_store59 ?_) | (with_reducible refine stop_load45 ?_) | (with_reducible refine stop_store45 ?_))
  refine MK1.out.mono ?_
  rintro e w7 ⟨rfl, xr⟩
  replace d0 := Lib.hid (d0.out.ext xr)
  replace l0 := Lib.hid (l0.out.ext xr)
  replace bw := Lib.hid (Ex.trans bw.out xr)
  clear MK1 xr
  cases hr : rightB vl pl.l
  · have hm : markR C vl pl.l = List.replicate 16 0 := by unfold markR; rw [hr]; rfl
    rw [hr] at RL
    rw [hm]
    have RL := RL
    clear hr hm MR0
    go_wp2_with (first | (with_reducible refine Sm.stop_load59 ?_) | (with_reducible refine Sm.stop_store59 ?_) | (with_reducible refine stop_load45 ?_) | (with_reducible refine stop_store45 ?_))
    (with_reducible refine ⟨?_⟩); (with_reducible refine at_any ?_ ?_); (focus go_simp); refine fun K0 hK => Sm.wp_st _ _ w7.heap.size (List.replicate 16 0) rfl rfl rfl rfl (Sm.Bk.new rfl _ _) rfl (fun w8 hd ho => hK _ _ ?_)
    have xs : Ex w7 w8 := ho.below _ (Nat.le_refl _) _ ((Below.refl _ _).alloc (Nat.le_refl _) _)
    obtain ⟨g16, hg16⟩ : ∃ g, g = w7.heap.size := ⟨_, rfl⟩
    rw [← hg16] at hd ⊢
    have D9 := Lib.hid hd
    replace d0 := Lib.hid (d0.out.ext xs)
    replace l0 := Lib.hid (l0.out.ext xs)
    replace bw := Lib.hid (Ex.trans bw.out xs)
    clear hK ho hd xs hg16
    go_wp2_with (first | (with_reducible refine Sm.stop_load59 ?_) | (with_reducible refine Sm.stop_store59 ?_) | (with_reducible refine stop_load45 ?_) | (with_reducible refine stop_store45 ?_))
    obtain ⟨T, hT⟩ : ∃ T : List (Option Value), T = [some (.int .i64 cN), some (.int .i64 cN), some (.bool true), some (.bool true), some (.bool cb), some (.bool cb), some (.bool true), some (.bool true), some (.bool true), some (.int .i64 1), some (.int .i64 1), some (.bool true), some (.bool true), some (.bool true), some (.bool false), some (.agg #[.int .u64 vl, ml]), some (.bool false), some (.bool true), some (.bool true), some (.bool true), some (.bool false), some (.bool true), some (.bool true), some (digV (List.replicate 16 0)), some (digV (List.replicate 16 0)), some (.bool true), some (.bool true), some (.bool true), none, some (undef), none, none, none, none, none, none, some (.bool true), some (.bool true), some (.bool true)] := ⟨_, rfl⟩
    refine wp_region_gen (JL w8 T 1000 1001 0 #[] #[]) (by kernel_rfl) (by kernel_rfl) (by kernel_rfl) (fitB_spec (by kernel_rfl)) (fun listed f h => JL.start _ listed f h) ?_ ?_
    · intro i o ho
      have hi : i < 39 := (Array.getElem?_eq_some_iff.1 ho).1
      have hi' : i = 0 ∨ i = 1 ∨ i = 2 ∨ i = 3 ∨ i = 4 ∨ i = 5 ∨ i = 6 ∨ i = 7 ∨ i = 8 ∨ i = 9 ∨ i = 10 ∨ i = 11 ∨ i = 12 ∨ i = 13 ∨ i = 14 ∨ i = 15 ∨ i = 16 ∨ i = 17 ∨ i = 18 ∨ i = 19 ∨ i = 20 ∨ i = 21 ∨ i = 22 ∨ i = 23 ∨ i = 24 ∨ i = 25 ∨ i = 26 ∨ i = 27 ∨ i = 28 ∨ i = 29 ∨ i = 30 ∨ i = 31 ∨ i = 32 ∨ i = 33 ∨ i = 34 ∨ i = 35 ∨ i = 36 ∨ i = 37 ∨ i = 38 := by omega
      clear hi
      rcases hi' with rfl | rfl | rfl | rfl | rfl | rfl | rfl | rfl | rfl | rfl | rfl | rfl | rfl | rfl | rfl | rfl | rfl | rfl | rfl | rfl | rfl | rfl | rfl | rfl | rfl | rfl | rfl | rfl | rfl | rfl | rfl | rfl | rfl | rfl | rfl | rfl | rfl | rfl | rfl
      all_goals (simp only [List.getElem?_toArray, List.getElem?_cons_zero, List.getElem?_cons_succ, Option.some.injEq] at ho; subst ho; intro listed f a w9 hJ hsz hls hun hdep hout hlat)
      · rw [if_pos (by rfl)]
        intro K hK
        have q9 := hout 9 (outB_spec (by kernel_rfl))
        refine wp_mv _ rfl (hK _ _ ?_)
        rw [show a.eval (.tmp 9) = .int .i64 cN from q9]
        exact hJ.plain (by decide) (by decide) (Ex.refl _) (fun x hx => by rw [hT] at hx; first | exact Option.some.inj hx | simpa using hx)
      · rw [if_pos (by rfl)]
        intro K hK
        have q11 := hout 11 (outB_spec (by kernel_rfl))
        refine wp_mv _ rfl (hK _ _ ?_)
        rw [show a.eval (.tmp 11) = .int .i64 cN from q11]
        exact hJ.plain (by decide) (by decide) (Ex.refl _) (fun x hx => by rw [hT] at hx; first | exact Option.some.inj hx | simpa using hx)
      · rw [if_pos (by rfl)]
        intro K hK
        have q77 := (hdep ⟨0, .data⟩ (by simp) rfl).2 _ rfl _ rfl
        rw [show f 0 = _ from hJ.vals 0 (hdep ⟨0, .data⟩ (by simp) rfl).1 (.int .i64 cN) (by rw [hT]; rfl)] at q77
        have q78 := (hdep ⟨1, .data⟩ (by simp) rfl).2 _ rfl _ rfl
        rw [show f 1 = _ from hJ.vals 1 (hdep ⟨1, .data⟩ (by simp) rfl).1 (.int .i64 cN) (by rw [hT]; rfl)] at q78
        rw [Array.getD_eq_getD_getElem?] at q77
        rw [Array.getD_eq_getD_getElem?] at q78
        clear hsz hdep hout hlat
        go_simp
        exact hK _ _ (hJ.plain (by decide) (by decide) (Ex.refl _) (fun x hx => by rw [hT] at hx; first | exact Option.some.inj hx | simpa using hx))
      · rw [if_pos (by rfl)]
        intro K hK
        have q79 := (hdep ⟨2, .data⟩ (by simp) rfl).2 _ rfl _ rfl
        rw [show f 2 = _ from hJ.vals 2 (hdep ⟨2, .data⟩ (by simp) rfl).1 (.bool true) (by rw [hT]; rfl)] at q79
        refine wp_mv _ rfl (hK _ _ ?_)
        rw [show a.eval (.tmp 79) = .bool true from q79]
        exact hJ.plain (by decide) (by decide) (Ex.refl _) (fun x hx => by rw [hT] at hx; first | exact Option.some.inj hx | simpa using hx)
      · have kg := (hdep ⟨3, .guard⟩ (by simp) rfl).2 _ rfl _ rfl
        rw [show f 3 = _ from hJ.vals 3 (hdep ⟨3, .guard⟩ (by simp) rfl).1 (.bool true) (by rw [hT]; rfl)] at kg
        rw [if_pos (wanted_of rfl rfl rfl kg)]
        intro K hK
        have q10 := hout 10 (outB_spec (by kernel_rfl))
        refine wp_mv _ rfl (hK _ _ ?_)
        rw [show a.eval (.tmp 10) = .bool cb from q10]
        exact hJ.plain (by decide) (by decide) (Ex.refl _) (fun x hx => by rw [hT] at hx; first | exact Option.some.inj hx | simpa using hx)
      · have kg := (hdep ⟨3, .guard⟩ (by simp) rfl).2 _ rfl _ rfl
        rw [show f 3 = _ from hJ.vals 3 (hdep ⟨3, .guard⟩ (by simp) rfl).1 (.bool true) (by rw [hT]; rfl)] at kg
        rw [if_pos (wanted_of rfl rfl rfl kg)]
        intro K hK
        have q12 := hout 12 (outB_spec (by kernel_rfl))
        refine wp_mv _ rfl (hK _ _ ?_)
        rw [show a.eval (.tmp 12) = .bool cb from q12]
        exact hJ.plain (by decide) (by decide) (Ex.refl _) (fun x hx => by rw [hT] at hx; first | exact Option.some.inj hx | simpa using hx)
      · have kg := (hdep ⟨3, .guard⟩ (by simp) rfl).2 _ rfl _ rfl
        rw [show f 3 = _ from hJ.vals 3 (hdep ⟨3, .guard⟩ (by simp) rfl).1 (.bool true) (by rw [hT]; rfl)] at kg
        rw [if_pos (wanted_of rfl rfl rfl kg)]
        intro K hK
        have q81 := (hdep ⟨4, .data⟩ (by simp) rfl).2 _ rfl _ rfl
        rw [show f 4 = _ from hJ.vals 4 (hdep ⟨4, .data⟩ (by simp) rfl).1 (.bool cb) (by rw [hT]; rfl)] at q81
        have q82 := (hdep ⟨5, .data⟩ (by simp) rfl).2 _ rfl _ rfl
        rw [show f 5 = _ from hJ.vals 5 (hdep ⟨5, .data⟩ (by simp) rfl).1 (.bool cb) (by rw [hT]; rfl)] at q82
        rw [Array.getD_eq_getD_getElem?] at q81
        rw [Array.getD_eq_getD_getElem?] at q82
        clear hsz hdep hout hlat
        go_simp
        exact hK _ _ (hJ.plain (by decide) (by decide) (Ex.refl _) (fun x hx => by rw [hT] at hx; first | exact Option.some.inj hx | simpa using hx))
      · rw [if_pos (by rfl)]
        intro K hK
        have q80 := (hdep ⟨3, .data⟩ (by simp) rfl).2 _ rfl _ rfl
        rw [show f 3 = _ from hJ.vals 3 (hdep ⟨3, .data⟩ (by simp) rfl).1 (.bool true) (by rw [hT]; rfl)] at q80
        have q83 := (hdep ⟨6, .data⟩ (by simp) rfl).2 _ rfl _ rfl
        rw [show f 6 = _ from hJ.vals 6 (hdep ⟨6, .data⟩ (by simp) rfl).1 (.bool true) (by rw [hT]; rfl)] at q83
        rw [Array.getD_eq_getD_getElem?] at q80
        rw [Array.getD_eq_getD_getElem?] at q83
        clear hsz hdep hout hlat
        go_simp
        exact hK _ _ (hJ.plain (by decide) (by decide) (Ex.refl _) (fun x hx => by rw [hT] at hx; first | exact Option.some.inj hx | simpa using hx))
      · rw [if_pos (by rfl)]
        intro K hK
        have q84 := (hdep ⟨7, .data⟩ (by simp) rfl).2 _ rfl _ rfl
        rw [show f 7 = _ from hJ.vals 7 (hdep ⟨7, .data⟩ (by simp) rfl).1 (.bool true) (by rw [hT]; rfl)] at q84
        refine wp_mv _ rfl (hK _ _ ?_)
        rw [show a.eval (.tmp 84) = .bool true from q84]
        exact hJ.plain (by decide) (by decide) (Ex.refl _) (fun x hx => by rw [hT] at hx; first | exact Option.some.inj hx | simpa using hx)
      · have kg := (hdep ⟨8, .guard⟩ (by simp) rfl).2 _ rfl _ rfl
        rw [show f 8 = _ from hJ.vals 8 (hdep ⟨8, .guard⟩ (by simp) rfl).1 (.bool true) (by rw [hT]; rfl)] at kg
        rw [if_pos (wanted_of rfl rfl rfl kg)]
        intro K hK
        have q14 := hout 14 (outB_spec (by kernel_rfl))
        refine wp_mv _ rfl (hK _ _ ?_)
        rw [show a.eval (.tmp 14) = .int .i64 1 from q14]
        exact hJ.plain (by decide) (by decide) (Ex.refl _) (fun x hx => by rw [hT] at hx; first | exact Option.some.inj hx | simpa using hx)
      · have kg := (hdep ⟨8, .guard⟩ (by simp) rfl).2 _ rfl _ rfl
        rw [show f 8 = _ from hJ.vals 8 (hdep ⟨8, .guard⟩ (by simp) rfl).1 (.bool true) (by rw [hT]; rfl)] at kg
        rw [if_pos (wanted_of rfl rfl rfl kg)]
        intro K hK
        have q15 := hout 15 (outB_spec (by kernel_rfl))
        refine wp_mv _ rfl (hK _ _ ?_)
        rw [show a.eval (.tmp 15) = .int .i64 1 from q15]
        exact hJ.plain (by decide) (by decide) (Ex.refl _) (fun x hx => by rw [hT] at hx; first | exact Option.some.inj hx | simpa using hx)
      · have kg := (hdep ⟨8, .guard⟩ (by simp) rfl).2 _ rfl _ rfl
        rw [show f 8 = _ from hJ.vals 8 (hdep ⟨8, .guard⟩ (by simp) rfl).1 (.bool true) (by rw [hT]; rfl)] at kg
        rw [if_pos (wanted_of rfl rfl rfl kg)]
        intro K hK
        have q86 := (hdep ⟨9, .data⟩ (by simp) rfl).2 _ rfl _ rfl
        rw [show f 9 = _ from hJ.vals 9 (hdep ⟨9, .data⟩ (by simp) rfl).1 (.int .i64 1) (by rw [hT]; rfl)] at q86
        have q87 := (hdep ⟨10, .data⟩ (by simp) rfl).2 _ rfl _ rfl
        rw [show f 10 = _ from hJ.vals 10 (hdep ⟨10, .data⟩ (by simp) rfl).1 (.int .i64 1) (by rw [hT]; rfl)] at q87
        rw [Array.getD_eq_getD_getElem?] at q86
        rw [Array.getD_eq_getD_getElem?] at q87
        clear hsz hdep hout hlat
        go_simp
        exact hK _ _ (hJ.plain (by decide) (by decide) (Ex.refl _) (fun x hx => by rw [hT] at hx; first | exact Option.some.inj hx | simpa using hx))
      · rw [if_pos (by rfl)]
        intro K hK
        have q85 := (hdep ⟨8, .data⟩ (by simp) rfl).2 _ rfl _ rfl
        rw [show f 8 = _ from hJ.vals 8 (hdep ⟨8, .data⟩ (by simp) rfl).1 (.bool true) (by rw [hT]; rfl)] at q85
        have q88 := (hdep ⟨11, .data⟩ (by simp) rfl).2 _ rfl _ rfl
        rw [show f 11 = _ from hJ.vals 11 (hdep ⟨11, .data⟩ (by simp) rfl).1 (.bool true) (by rw [hT]; rfl)] at q88
        rw [Array.getD_eq_getD_getElem?] at q85
        rw [Array.getD_eq_getD_getElem?] at q88
        clear hsz hdep hout hlat
        go_simp
        exact hK _ _ (hJ.plain (by decide) (by decide) (Ex.refl _) (fun x hx => by rw [hT] at hx; first | exact Option.some.inj hx | simpa using hx))
      · rw [if_pos (by rfl)]
        intro K hK
        have q89 := (hdep ⟨12, .data⟩ (by simp) rfl).2 _ rfl _ rfl
        rw [show f 12 = _ from hJ.vals 12 (hdep ⟨12, .data⟩ (by simp) rfl).1 (.bool true) (by rw [hT]; rfl)] at q89
        refine wp_mv _ rfl (hK _ _ ?_)
        rw [show a.eval (.tmp 89) = .bool true from q89]
        exact hJ.plain (by decide) (by decide) (Ex.refl _) (fun x hx => by rw [hT] at hx; first | exact Option.some.inj hx | simpa using hx)
      · have kg := (hdep ⟨13, .guard⟩ (by simp) rfl).2 _ rfl _ rfl
        rw [show f 13 = _ from hJ.vals 13 (hdep ⟨13, .guard⟩ (by simp) rfl).1 (.bool true) (by rw [hT]; rfl)] at kg
        rw [if_pos (wanted_of rfl rfl rfl kg)]
        intro K hK
        have q17 := hout 17 (outB_spec (by kernel_rfl))
        refine wp_mv _ rfl (hK _ _ ?_)
        rw [show a.eval (.tmp 17) = .bool false from q17]
        exact hJ.plain (by decide) (by decide) (Ex.refl _) (fun x hx => by rw [hT] at hx; first | exact Option.some.inj hx | simpa using hx)
      · have kg := (hdep ⟨13, .guard⟩ (by simp) rfl).2 _ rfl _ rfl
        rw [show f 13 = _ from hJ.vals 13 (hdep ⟨13, .guard⟩ (by simp) rfl).1 (.bool true) (by rw [hT]; rfl)] at kg
        rw [if_pos (wanted_of rfl rfl rfl kg)]
        intro K hK
        have q6 := hout 6 (outB_spec (by kernel_rfl))
        refine wp_ld45g _ (B + 2) _ _ rfl q6 (l0.out.ext hJ.ext) (hK _ _ (hJ.plain (by decide) (by decide) (Ex.refl _) (fun x hx => by rw [hT] at hx; first | exact Option.some.inj hx | simpa using hx)))
      · have kg := (hdep ⟨13, .guard⟩ (by simp) rfl).2 _ rfl _ rfl
        rw [show f 13 = _ from hJ.vals 13 (hdep ⟨13, .guard⟩ (by simp) rfl).1 (.bool true) (by rw [hT]; rfl)] at kg
        rw [if_pos (wanted_of rfl rfl rfl kg)]
        intro K hK
        have q92 := (hdep ⟨15, .data⟩ (by simp) rfl).2 _ rfl _ rfl
        rw [show f 15 = _ from hJ.vals 15 (hdep ⟨15, .data⟩ (by simp) rfl).1 (.agg #[.int .u64 vl, ml]) (by rw [hT]; rfl)] at q92
        rw [Array.getD_eq_getD_getElem?] at q92
        have cm := Lib.hid (RL.out w9 (Ex.trans bw.out hJ.ext))
        clear hsz hdep hout hlat
        go_simp
        refine cm.out.mono ?_
        rintro e w3 ⟨rfl, xq⟩
        exact hK _ _ (hJ.plain (by decide) (by decide) xq (fun x hx => by rw [hT] at hx; first | exact Option.some.inj hx | simpa using hx))
      · have kg := (hdep ⟨13, .guard⟩ (by simp) rfl).2 _ rfl _ rfl
        rw [show f 13 = _ from hJ.vals 13 (hdep ⟨13, .guard⟩ (by simp) rfl).1 (.bool true) (by rw [hT]; rfl)] at kg
        rw [if_pos (wanted_of rfl rfl rfl kg)]
        intro K hK
        have q91 := (hdep ⟨14, .data⟩ (by simp) rfl).2 _ rfl _ rfl
        rw [show f 14 = _ from hJ.vals 14 (hdep ⟨14, .data⟩ (by simp) rfl).1 (.bool false) (by rw [hT]; rfl)] at q91
        have q93 := (hdep ⟨16, .data⟩ (by simp) rfl).2 _ rfl _ rfl
        rw [show f 16 = _ from hJ.vals 16 (hdep ⟨16, .data⟩ (by simp) rfl).1 (.bool false) (by rw [hT]; rfl)] at q93
        rw [Array.getD_eq_getD_getElem?] at q91
        rw [Array.getD_eq_getD_getElem?] at q93
        clear hsz hdep hout hlat
        go_simp
        exact hK _ _ (hJ.plain (by decide) (by decide) (Ex.refl _) (fun x hx => by rw [hT] at hx; first | exact Option.some.inj hx | simpa using hx))
      · rw [if_pos (by rfl)]
        intro K hK
        have q90 := (hdep ⟨13, .data⟩ (by simp) rfl).2 _ rfl _ rfl
        rw [show f 13 = _ from hJ.vals 13 (hdep ⟨13, .data⟩ (by simp) rfl).1 (.bool true) (by rw [hT]; rfl)] at q90
        have q94 := (hdep ⟨17, .data⟩ (by simp) rfl).2 _ rfl _ rfl
        rw [show f 17 = _ from hJ.vals 17 (hdep ⟨17, .data⟩ (by simp) rfl).1 (.bool true) (by rw [hT]; rfl)] at q94
        rw [Array.getD_eq_getD_getElem?] at q90
        rw [Array.getD_eq_getD_getElem?] at q94
        clear hsz hdep hout hlat
        go_simp
        exact hK _ _ (hJ.plain (by decide) (by decide) (Ex.refl _) (fun x hx => by rw [hT] at hx; first | exact Option.some.inj hx | simpa using hx))
      · rw [if_pos (by rfl)]
        intro K hK
        have q95 := (hdep ⟨18, .data⟩ (by simp) rfl).2 _ rfl _ rfl
        rw [show f 18 = _ from hJ.vals 18 (hdep ⟨18, .data⟩ (by simp) rfl).1 (.bool true) (by rw [hT]; rfl)] at q95
        refine wp_mv _ rfl (hK _ _ ?_)
        rw [show a.eval (.tmp 95) = .bool true from q95]
        exact hJ.plain (by decide) (by decide) (Ex.refl _) (fun x hx => by rw [hT] at hx; first | exact Option.some.inj hx | simpa using hx)
      · have kg := (hdep ⟨19, .guard⟩ (by simp) rfl).2 _ rfl _ rfl
        rw [show f 19 = _ from hJ.vals 19 (hdep ⟨19, .guard⟩ (by simp) rfl).1 (.bool true) (by rw [hT]; rfl)] at kg
        rw [if_pos (wanted_of rfl rfl rfl kg)]
        intro K hK
        have q17 := hout 17 (outB_spec (by kernel_rfl))
        refine wp_mv _ rfl (hK _ _ ?_)
        rw [show a.eval (.tmp 17) = .bool false from q17]
        exact hJ.plain (by decide) (by decide) (Ex.refl _) (fun x hx => by rw [hT] at hx; first | exact Option.some.inj hx | simpa using hx)
      · have kg := (hdep ⟨19, .guard⟩ (by simp) rfl).2 _ rfl _ rfl
        rw [show f 19 = _ from hJ.vals 19 (hdep ⟨19, .guard⟩ (by simp) rfl).1 (.bool true) (by rw [hT]; rfl)] at kg
        rw [if_pos (wanted_of rfl rfl rfl kg)]
        intro K hK
        have q97 := (hdep ⟨20, .data⟩ (by simp) rfl).2 _ rfl _ rfl
        rw [show f 20 = _ from hJ.vals 20 (hdep ⟨20, .data⟩ (by simp) rfl).1 (.bool false) (by rw [hT]; rfl)] at q97
        rw [Array.getD_eq_getD_getElem?] at q97
        clear hsz hdep hout hlat
        go_simp
        exact hK _ _ (hJ.plain (by decide) (by decide) (Ex.refl _) (fun x hx => by rw [hT] at hx; first | exact Option.some.inj hx | simpa using hx))
      · have kg := (hdep ⟨19, .guard⟩ (by simp) rfl).2 _ rfl _ rfl
        rw [show f 19 = _ from hJ.vals 19 (hdep ⟨19, .guard⟩ (by simp) rfl).1 (.bool true) (by rw [hT]; rfl)] at kg
        rw [if_pos (wanted_of rfl rfl rfl kg)]
        intro K hK
        have q98 := (hdep ⟨21, .data⟩ (by simp) rfl).2 _ rfl _ rfl
        rw [show f 21 = _ from hJ.vals 21 (hdep ⟨21, .data⟩ (by simp) rfl).1 (.bool true) (by rw [hT]; rfl)] at q98
        refine wp_mv _ rfl (hK _ _ ?_)
        rw [show a.eval (.tmp 98) = .bool true from q98]
        exact hJ.plain (by decide) (by decide) (Ex.refl _) (fun x hx => by rw [hT] at hx; first | exact Option.some.inj hx | simpa using hx)
      · have kg := (hdep ⟨22, .guard⟩ (by simp) rfl).2 _ rfl _ rfl
        rw [show f 22 = _ from hJ.vals 22 (hdep ⟨22, .guard⟩ (by simp) rfl).1 (.bool true) (by rw [hT]; rfl)] at kg
        rw [if_pos (wanted_of rfl rfl rfl kg)]
        intro K hK
        have q16 := hout 16 (outB_spec (by kernel_rfl))
        exact Sm.wp_ld _ g16 (List.replicate 16 0) rfl q16 (DB.ext D9.out hJ.ext) (hK _ _ (hJ.plain (by decide) (by decide) (Ex.refl _) (fun x hx => by rw [hT] at hx; first | exact Option.some.inj hx | simpa using hx)))
      · have kg := (hdep ⟨22, .guard⟩ (by simp) rfl).2 _ rfl _ rfl
        rw [show f 22 = _ from hJ.vals 22 (hdep ⟨22, .guard⟩ (by simp) rfl).1 (.bool true) (by rw [hT]; rfl)] at kg
        rw [if_pos (wanted_of rfl rfl rfl kg)]
        intro K hK
        clear hsz hdep hout hlat
        go_simp
        exact hK _ _ (hJ.plain (by decide) (by decide) (Ex.refl _) (fun x hx => by rw [hT] at hx; have := Option.some.inj hx; rw [← this]; rfl))
      · have kg := (hdep ⟨22, .guard⟩ (by simp) rfl).2 _ rfl _ rfl
        rw [show f 22 = _ from hJ.vals 22 (hdep ⟨22, .guard⟩ (by simp) rfl).1 (.bool true) (by rw [hT]; rfl)] at kg
        rw [if_pos (wanted_of rfl rfl rfl kg)]
        intro K hK
        have q100 := (hdep ⟨23, .data⟩ (by simp) rfl).2 _ rfl _ rfl
        rw [show f 23 = _ from hJ.vals 23 (hdep ⟨23, .data⟩ (by simp) rfl).1 (digV (List.replicate 16 0)) (by rw [hT]; rfl)] at q100
        have q101 := (hdep ⟨24, .data⟩ (by simp) rfl).2 _ rfl _ rfl
        rw [show f 24 = _ from hJ.vals 24 (hdep ⟨24, .data⟩ (by simp) rfl).1 (digV (List.replicate 16 0)) (by rw [hT]; rfl)] at q101
        refine Sm.wp_eql_dig _ _ _ rfl (List.replicate 16 0) (List.replicate 16 0) rfl rfl q100 q101 ?_
        rw [decide_eq_true rfl]
        exact hK _ _ (hJ.plain (by decide) (by decide) (Ex.refl _) (fun x hx => by rw [hT] at hx; first | exact Option.some.inj hx | simpa using hx))
      · have kg := (hdep ⟨19, .guard⟩ (by simp) rfl).2 _ rfl _ rfl
        rw [show f 19 = _ from hJ.vals 19 (hdep ⟨19, .guard⟩ (by simp) rfl).1 (.bool true) (by rw [hT]; rfl)] at kg
        rw [if_pos (wanted_of rfl rfl rfl kg)]
        intro K hK
        have q99 := (hdep ⟨22, .data⟩ (by simp) rfl).2 _ rfl _ rfl
        rw [show f 22 = _ from hJ.vals 22 (hdep ⟨22, .data⟩ (by simp) rfl).1 (.bool true) (by rw [hT]; rfl)] at q99
        have q102 := (hdep ⟨25, .data⟩ (by simp) rfl).2 _ rfl _ rfl
        rw [show f 25 = _ from hJ.vals 25 (hdep ⟨25, .data⟩ (by simp) rfl).1 (.bool true) (by rw [hT]; rfl)] at q102
        rw [Array.getD_eq_getD_getElem?] at q99
        rw [Array.getD_eq_getD_getElem?] at q102
        clear hsz hdep hout hlat
        go_simp
        exact hK _ _ (hJ.plain (by decide) (by decide) (Ex.refl _) (fun x hx => by rw [hT] at hx; first | exact Option.some.inj hx | simpa using hx))
      · have kg := (hdep ⟨19, .guard⟩ (by simp) rfl).2 _ rfl _ rfl
        rw [show f 19 = _ from hJ.vals 19 (hdep ⟨19, .guard⟩ (by simp) rfl).1 (.bool true) (by rw [hT]; rfl)] at kg
        rw [if_pos (wanted_of rfl rfl rfl kg)]
        intro K hK
        have q103 := (hdep ⟨26, .data⟩ (by simp) rfl).2 _ rfl _ rfl
        rw [show f 26 = _ from hJ.vals 26 (hdep ⟨26, .data⟩ (by simp) rfl).1 (.bool true) (by rw [hT]; rfl)] at q103
        refine wp_mv _ rfl (hK _ _ ?_)
        rw [show a.eval (.tmp 103) = .bool true from q103]
        exact hJ.plain (by decide) (by decide) (Ex.refl _) (fun x hx => by rw [hT] at hx; first | exact Option.some.inj hx | simpa using hx)
      · have kg := (hdep ⟨27, .guard⟩ (by simp) rfl).2 _ rfl _ rfl
        rw [show f 27 = _ from hJ.vals 27 (hdep ⟨27, .guard⟩ (by simp) rfl).1 (.bool true) (by rw [hT]; rfl)] at kg
        rw [if_neg (not_wanted rfl rfl rfl kg (by decide))]
        exact hJ.plain (by decide) (by decide) (Ex.refl _) (fun x hx => by rw [hT] at hx; change none = some x at hx; cases hx)
      · have kg := (hdep ⟨27, .guard⟩ (by simp) rfl).2 _ rfl _ rfl
        rw [show f 27 = _ from hJ.vals 27 (hdep ⟨27, .guard⟩ (by simp) rfl).1 (.bool true) (by rw [hT]; rfl)] at kg
        rw [if_neg (not_wanted rfl rfl rfl kg (by decide))]
        exact hJ.plain (by decide) (by decide) (Ex.refl _) (fun x hx => by rw [hT] at hx; first | exact Option.some.inj hx | simpa using hx)
      · have kg := (hdep ⟨29, .guard⟩ (by simp) rfl).2 _ rfl _ rfl
        rw [show f 29 = _ from hJ.vals 29 (hdep ⟨29, .guard⟩ (by simp) rfl).1 (undef) (by rw [hT]; rfl)] at kg
        rw [if_neg (not_wanted_x rfl rfl rfl kg (by simp [undef]))]
        exact hJ.plain (by decide) (by decide) (Ex.refl _) (fun x hx => by rw [hT] at hx; change none = some x at hx; cases hx)
      · have kg := (hdep ⟨29, .guard⟩ (by simp) rfl).2 _ rfl _ rfl
        rw [show f 29 = _ from hJ.vals 29 (hdep ⟨29, .guard⟩ (by simp) rfl).1 (undef) (by rw [hT]; rfl)] at kg
        rw [if_neg (not_wanted_x rfl rfl rfl kg (by simp [undef]))]
        exact hJ.plain (by decide) (by decide) (Ex.refl _) (fun x hx => by rw [hT] at hx; change none = some x at hx; cases hx)
      · have kg := (hdep ⟨29, .guard⟩ (by simp) rfl).2 _ rfl _ rfl
        rw [show f 29 = _ from hJ.vals 29 (hdep ⟨29, .guard⟩ (by simp) rfl).1 (undef) (by rw [hT]; rfl)] at kg
        rw [if_neg (not_wanted_x rfl rfl rfl kg (by simp [undef]))]
        exact hJ.plain (by decide) (by decide) (Ex.refl _) (fun x hx => by rw [hT] at hx; change none = some x at hx; cases hx)
      · have kg := (hdep ⟨29, .guard⟩ (by simp) rfl).2 _ rfl _ rfl
        rw [show f 29 = _ from hJ.vals 29 (hdep ⟨29, .guard⟩ (by simp) rfl).1 (undef) (by rw [hT]; rfl)] at kg
        rw [if_neg (not_wanted_x rfl rfl rfl kg (by simp [undef]))]
        exact hJ.plain (by decide) (by decide) (Ex.refl _) (fun x hx => by rw [hT] at hx; change none = some x at hx; cases hx)
      · have kg := (hdep ⟨29, .guard⟩ (by simp) rfl).2 _ rfl _ rfl
        rw [show f 29 = _ from hJ.vals 29 (hdep ⟨29, .guard⟩ (by simp) rfl).1 (undef) (by rw [hT]; rfl)] at kg
        rw [if_neg (not_wanted_x rfl rfl rfl kg (by simp [undef]))]
        exact hJ.plain (by decide) (by decide) (Ex.refl _) (fun x hx => by rw [hT] at hx; change none = some x at hx; cases hx)
      · have kg := (hdep ⟨27, .guard⟩ (by simp) rfl).2 _ rfl _ rfl
        rw [show f 27 = _ from hJ.vals 27 (hdep ⟨27, .guard⟩ (by simp) rfl).1 (.bool true) (by rw [hT]; rfl)] at kg
        rw [if_neg (not_wanted rfl rfl rfl kg (by decide))]
        exact hJ.plain (by decide) (by decide) (Ex.refl _) (fun x hx => by rw [hT] at hx; change none = some x at hx; cases hx)
      · have kg := (hdep ⟨19, .guard⟩ (by simp) rfl).2 _ rfl _ rfl
        rw [show f 19 = _ from hJ.vals 19 (hdep ⟨19, .guard⟩ (by simp) rfl).1 (.bool true) (by rw [hT]; rfl)] at kg
        rw [if_pos (wanted_of rfl rfl rfl kg)]
        intro K hK
        have q104 := (hdep ⟨27, .data⟩ (by simp) rfl).2 _ rfl _ rfl
        rw [show f 27 = _ from hJ.vals 27 (hdep ⟨27, .data⟩ (by simp) rfl).1 (.bool true) (by rw [hT]; rfl)] at q104
        have q112 := (hdep ⟨35, .data⟩ (by simp) rfl).2 _ rfl _ rfl
        rw [Array.getD_eq_getD_getElem?] at q104
        rw [Array.getD_eq_getD_getElem?] at q112
        clear hsz hdep hout hlat
        go_simp
        exact hK _ _ (hJ.plain (by decide) (by decide) (Ex.refl _) (fun x hx => by rw [hT] at hx; first | exact Option.some.inj hx | simpa using hx))
      · rw [if_pos (by rfl)]
        intro K hK
        have q96 := (hdep ⟨19, .data⟩ (by simp) rfl).2 _ rfl _ rfl
        rw [show f 19 = _ from hJ.vals 19 (hdep ⟨19, .data⟩ (by simp) rfl).1 (.bool true) (by rw [hT]; rfl)] at q96
        have q113 := (hdep ⟨36, .data⟩ (by simp) rfl).2 _ rfl _ rfl
        rw [show f 36 = _ from hJ.vals 36 (hdep ⟨36, .data⟩ (by simp) rfl).1 (.bool true) (by rw [hT]; rfl)] at q113
        rw [Array.getD_eq_getD_getElem?] at q96
        rw [Array.getD_eq_getD_getElem?] at q113
        clear hsz hdep hout hlat
        go_simp
        exact hK _ _ (hJ.plain (by decide) (by decide) (Ex.refl _) (fun x hx => by rw [hT] at hx; first | exact Option.some.inj hx | simpa using hx))
      · rw [if_pos (by rfl)]
        intro K hK
        have q114 := (hdep ⟨37, .data⟩ (by simp) rfl).2 _ rfl _ rfl
        rw [show f 37 = _ from hJ.vals 37 (hdep ⟨37, .data⟩ (by simp) rfl).1 (.bool true) (by rw [hT]; rfl)] at q114
        rw [Array.getD_eq_getD_getElem?] at q114
        clear hsz hdep hout hlat
        go_simp
        exact hK _ _ (hJ.plain (by decide) (by decide) (Ex.refl _) (fun x hx => by rw [hT] at hx; first | exact Option.some.inj hx | simpa using hx))
    · intro listed f w9 hall hJ
      have f0 : f 0 = .int .i64 cN := hJ.vals 0 (hall 0 (by simp)) _ (by rw [hT]; rfl)
      have f1 : f 1 = .int .i64 cN := hJ.vals 1 (hall 1 (by simp)) _ (by rw [hT]; rfl)
      have f2 : f 2 = .bool true := hJ.vals 2 (hall 2 (by simp)) _ (by rw [hT]; rfl)
      have f3 : f 3 = .bool true := hJ.vals 3 (hall 3 (by simp)) _ (by rw [hT]; rfl)
      have f4 : f 4 = .bool cb := hJ.vals 4 (hall 4 (by simp)) _ (by rw [hT]; rfl)
      have f5 : f 5 = .bool cb := hJ.vals 5 (hall 5 (by simp)) _ (by rw [hT]; rfl)
      have f6 : f 6 = .bool true := hJ.vals 6 (hall 6 (by simp)) _ (by rw [hT]; rfl)
      have f7 : f 7 = .bool true := hJ.vals 7 (hall 7 (by simp)) _ (by rw [hT]; rfl)
      have f8 : f 8 = .bool true := hJ.vals 8 (hall 8 (by simp)) _ (by rw [hT]; rfl)
      have f9 : f 9 = .int .i64 1 := hJ.vals 9 (hall 9 (by simp)) _ (by rw [hT]; rfl)
      have f10 : f 10 = .int .i64 1 := hJ.vals 10 (hall 10 (by simp)) _ (by rw [hT]; rfl)
      have f11 : f 11 = .bool true := hJ.vals 11 (hall 11 (by simp)) _ (by rw [hT]; rfl)
      have f12 : f 12 = .bool true := hJ.vals 12 (hall 12 (by simp)) _ (by rw [hT]; rfl)
      have f13 : f 13 = .bool true := hJ.vals 13 (hall 13 (by simp)) _ (by rw [hT]; rfl)
      have f14 : f 14 = .bool false := hJ.vals 14 (hall 14 (by simp)) _ (by rw [hT]; rfl)
      have f15 : f 15 = .agg #[.int .u64 vl, ml] := hJ.vals 15 (hall 15 (by simp)) _ (by rw [hT]; rfl)
      have f16 : f 16 = .bool false := hJ.vals 16 (hall 16 (by simp)) _ (by rw [hT]; rfl)
      have f17 : f 17 = .bool true := hJ.vals 17 (hall 17 (by simp)) _ (by rw [hT]; rfl)
      have f18 : f 18 = .bool true := hJ.vals 18 (hall 18 (by simp)) _ (by rw [hT]; rfl)
      have f19 : f 19 = .bool true := hJ.vals 19 (hall 19 (by simp)) _ (by rw [hT]; rfl)
      have f20 : f 20 = .bool false := hJ.vals 20 (hall 20 (by simp)) _ (by rw [hT]; rfl)
      have f21 : f 21 = .bool true := hJ.vals 21 (hall 21 (by simp)) _ (by rw [hT]; rfl)
      have f22 : f 22 = .bool true := hJ.vals 22 (hall 22 (by simp)) _ (by rw [hT]; rfl)
      have f23 : f 23 = digV (List.replicate 16 0) := hJ.vals 23 (hall 23 (by simp)) _ (by rw [hT]; rfl)
      have f24 : f 24 = digV (List.replicate 16 0) := hJ.vals 24 (hall 24 (by simp)) _ (by rw [hT]; rfl)
      have f25 : f 25 = .bool true := hJ.vals 25 (hall 25 (by simp)) _ (by rw [hT]; rfl)
      have f26 : f 26 = .bool true := hJ.vals 26 (hall 26 (by simp)) _ (by rw [hT]; rfl)
      have f27 : f 27 = .bool true := hJ.vals 27 (hall 27 (by simp)) _ (by rw [hT]; rfl)
      have f29 : f 29 = undef := hJ.vals 29 (hall 29 (by simp)) _ (by rw [hT]; rfl)
      have f36 : f 36 = .bool true := hJ.vals 36 (hall 36 (by simp)) _ (by rw [hT]; rfl)
      have f37 : f 37 = .bool true := hJ.vals 37 (hall 37 (by simp)) _ (by rw [hT]; rfl)
      have f38 : f 38 = .bool true := hJ.vals 38 (hall 38 (by simp)) _ (by rw [hT]; rfl)
      have xw := hJ.ext
      simp only [putAll, Act.put, List.setIfInBounds_toArray, List.set_cons_zero, List.set_cons_succ, Nat.zero_add, Nat.reduceAdd]
      rw [f0, f1, f2, f3, f4, f5, f6, f7, f8, f9, f10, f11, f12, f13, f14, f15, f16, f17, f18, f19, f20, f21, f22, f23, f24, f25, f26, f27, f29, f36, f37, f38]
      clear f0 f1 f2 f3 f4 f5 f6 f7 f8 f9 f10 f11 f12 f13 f14 f15 f16 f17 f18 f19 f20 f21 f22 f23 f24 f25 f26 f27 f29 f36 f37 f38 hJ hall hT
      generalize f 28 = y28
      generalize f 30 = y30
      generalize f 31 = y31
      generalize f 32 = y32
      generalize f 33 = y33
      generalize f 34 = y34
      generalize f 35 = y35
      replace bw := Lib.hid (Ex.trans bw.out xw)
      clear xw
      go_wp2_with (first | (with_reducible refine Sm.stop_load59 ?_) | (with_reducible refine Sm.stop_store59 ?_) | (with_reducible refine stop_load45 ?_) | (with_reducible refine stop_store45 ?_))
      go_ret
      exact ⟨rfl, bw.out⟩
  · have hm : markR C vl pl.l = markL C vl pl.l := by unfold markR; rw [hr]; rfl
    rw [hr] at RL
    rw [hm]
    have RL := RL
    have MR := Lib.hid (MR0.out hr)
    clear hr hm MR0
    go_wp2_with (first | (with_reducible refine Sm.stop_load59 ?_) | (with_reducible refine Sm.stop_store59 ?_) | (with_reducible refine stop_load45 ?_) | (with_reducible refine stop_store45 ?_))
    (with_reducible refine ⟨?_⟩); (with_reducible refine at_any ?_ ?_); (focus go_simp); refine fun K0 hK => Sm.wp_st _ _ w7.heap.size (markL C vl pl.l) rfl rfl rfl rfl (Sm.Bk.new rfl _ _) rfl (fun w8 hd ho => hK _ _ ?_)
    have xs : Ex w7 w8 := ho.below _ (Nat.le_refl _) _ ((Below.refl _ _).alloc (Nat.le_refl _) _)
    obtain ⟨g16, hg16⟩ : ∃ g, g = w7.heap.size := ⟨_, rfl⟩
    rw [← hg16] at hd ⊢
    have D9 := Lib.hid hd
    replace d0 := Lib.hid (d0.out.ext xs)
    replace l0 := Lib.hid (l0.out.ext xs)
    replace bw := Lib.hid (Ex.trans bw.out xs)
    clear hK ho hd xs hg16
    go_wp2_with (first | (with_reducible refine Sm.stop_load59 ?_) | (with_reducible refine Sm.stop_store59 ?_) | (with_reducible refine stop_load45 ?_) | (with_reducible refine stop_store45 ?_))
    obtain ⟨T, hT⟩ : ∃ T : List (Option Value), T = [some (.int .i64 cN), some (.int .i64 cN), some (.bool true), some (.bool true), some (.bool cb), some (.bool cb), some (.bool true), some (.bool true), some (.bool true), some (.int .i64 1), some (.int .i64 1), some (.bool true), some (.bool true), some (.bool true), some (.bool true), some (.agg #[.int .u64 vl, ml]), some (.bool true), some (.bool true), some (.bool true), some (.bool true), some (.bool true), some (.bool false), some (.bool false), none, none, none, some (.bool false), some (.bool false), some (.bool true), some (.bool true), some (digV (markL C vl pl.l)), some (digV C), some (.agg #[.int .u64 vl, ml]), some (digV (markL C vl pl.l)), some (.bool true), some (.bool true), some (.bool true), some (.bool true), some (.bool true)] := ⟨_, rfl⟩
    refine wp_region_gen (JL w8 T 1000 1001 0 #[] #[]) (by kernel_rfl) (by kernel_rfl) (by kernel_rfl) (fitB_spec (by kernel_rfl)) (fun listed f h => JL.start _ listed f h) ?_ ?_
    · intro i o ho
      have hi : i < 39 := (Array.getElem?_eq_some_iff.1 ho).1
      have hi' : i = 0 ∨ i = 1 ∨ i = 2 ∨ i = 3 ∨ i = 4 ∨ i = 5 ∨ i = 6 ∨ i = 7 ∨ i = 8 ∨ i = 9 ∨ i = 10 ∨ i = 11 ∨ i = 12 ∨ i = 13 ∨ i = 14 ∨ i = 15 ∨ i = 16 ∨ i = 17 ∨ i = 18 ∨ i = 19 ∨ i = 20 ∨ i = 21 ∨ i = 22 ∨ i = 23 ∨ i = 24 ∨ i = 25 ∨ i = 26 ∨ i = 27 ∨ i = 28 ∨ i = 29 ∨ i = 30 ∨ i = 31 ∨ i = 32 ∨ i = 33 ∨ i = 34 ∨ i = 35 ∨ i = 36 ∨ i = 37 ∨ i = 38 := by omega
      clear hi
      rcases hi' with rfl | rfl | rfl | rfl | rfl | rfl | rfl | rfl | rfl | rfl | rfl | rfl | rfl | rfl | rfl | rfl | rfl | rfl | rfl | rfl | rfl | rfl | rfl | rfl | rfl | rfl | rfl | rfl | rfl | rfl | rfl | rfl | rfl | rfl | rfl | rfl | rfl | rfl | rfl
      all_goals (simp only [List.getElem?_toArray, List.getElem?_cons_zero, List.getElem?_cons_succ, Option.some.injEq] at ho; subst ho; intro listed f a w9 hJ hsz hls hun hdep hout hlat)
      · rw [if_pos (by rfl)]
        intro K hK
        have q9 := hout 9 (outB_spec (by kernel_rfl))
        refine wp_mv _ rfl (hK _ _ ?_)
        rw [show a.eval (.tmp 9) = .int .i64 cN from q9]
        exact hJ.plain (by decide) (by decide) (Ex.refl _) (fun x hx => by rw [hT] at hx; first | exact Option.some.inj hx | simpa using hx)
      · rw [if_pos (by rfl)]
        intro K hK
        have q11 := hout 11 (outB_spec (by kernel_rfl))
        refine wp_mv _ rfl (hK _ _ ?_)
        rw [show a.eval (.tmp 11) = .int .i64 cN from q11]
        exact hJ.plain (by decide) (by decide) (Ex.refl _) (fun x hx => by rw [hT] at hx; first | exact Option.some.inj hx | simpa using hx)
      · rw [if_pos (by rfl)]
        intro K hK
        have q77 := (hdep ⟨0, .data⟩ (by simp) rfl).2 _ rfl _ rfl
        rw [show f 0 = _ from hJ.vals 0 (hdep ⟨0, .data⟩ (by simp) rfl).1 (.int .i64 cN) (by rw [hT]; rfl)] at q77
        have q78 := (hdep ⟨1, .data⟩ (by simp) rfl).2 _ rfl _ rfl
        rw [show f 1 = _ from hJ.vals 1 (hdep ⟨1, .data⟩ (by simp) rfl).1 (.int .i64 cN) (by rw [hT]; rfl)] at q78
        rw [Array.getD_eq_getD_getElem?] at q77
        rw [Array.getD_eq_getD_getElem?] at q78
        clear hsz hdep hout hlat
        go_simp
        exact hK _ _ (hJ.plain (by decide) (by decide) (Ex.refl _) (fun x hx => by rw [hT] at hx; first | exact Option.some.inj hx | simpa using hx))
      · rw [if_pos (by rfl)]
        intro K hK
        have q79 := (hdep ⟨2, .data⟩ (by simp) rfl).2 _ rfl _ rfl
        rw [show f 2 = _ from hJ.vals 2 (hdep ⟨2, .data⟩ (by simp) rfl).1 (.bool true) (by rw [hT]; rfl)] at q79
        refine wp_mv _ rfl (hK _ _ ?_)
        rw [show a.eval (.tmp 79) = .bool true from q79]
        exact hJ.plain (by decide) (by decide) (Ex.refl _) (fun x hx => by rw [hT] at hx; first | exact Option.some.inj hx | simpa using hx)
      · have kg := (hdep ⟨3, .guard⟩ (by simp) rfl).2 _ rfl _ rfl
        rw [show f 3 = _ from hJ.vals 3 (hdep ⟨3, .guard⟩ (by simp) rfl).1 (.bool true) (by rw [hT]; rfl)] at kg
        rw [if_pos (wanted_of rfl rfl rfl kg)]
        intro K hK
        have q10 := hout 10 (outB_spec (by kernel_rfl))
        refine wp_mv _ rfl (hK _ _ ?_)
        rw [show a.eval (.tmp 10) = .bool cb from q10]
        exact hJ.plain (by decide) (by decide) (Ex.refl _) (fun x hx => by rw [hT] at hx; first | exact Option.some.inj hx | simpa using hx)
      · have kg := (hdep ⟨3, .guard⟩ (by simp) rfl).2 _ rfl _ rfl
        rw [show f 3 = _ from hJ.vals 3 (hdep ⟨3, .guard⟩ (by simp) rfl).1 (.bool true) (by rw [hT]; rfl)] at kg
        rw [if_pos (wanted_of rfl rfl rfl kg)]
        intro K hK
        have q12 := hout 12 (outB_spec (by kernel_rfl))
        refine wp_mv _ rfl (hK _ _ ?_)
        rw [show a.eval (.tmp 12) = .bool cb from q12]
        exact hJ.plain (by decide) (by decide) (Ex.refl _) (fun x hx => by rw [hT] at hx; first | exact Option.some.inj hx | simpa using hx)
      · have kg := (hdep ⟨3, .guard⟩ (by simp) rfl).2 _ rfl _ rfl
        rw [show f 3 = _ from hJ.vals 3 (hdep ⟨3, .guard⟩ (by simp) rfl).1 (.bool true) (by rw [hT]; rfl)] at kg
        rw [if_pos (wanted_of rfl rfl rfl kg)]
        intro K hK
        have q81 := (hdep ⟨4, .data⟩ (by simp) rfl).2 _ rfl _ rfl
        rw [show f 4 = _ from hJ.vals 4 (hdep ⟨4, .data⟩ (by simp) rfl).1 (.bool cb) (by rw [hT]; rfl)] at q81
        have q82 := (hdep ⟨5, .data⟩ (by simp) rfl).2 _ rfl _ rfl
        rw [show f 5 = _ from hJ.vals 5 (hdep ⟨5, .data⟩ (by simp) rfl).1 (.bool cb) (by rw [hT]; rfl)] at q82
        rw [Array.getD_eq_getD_getElem?] at q81
        rw [Array.getD_eq_getD_getElem?] at q82
        clear hsz hdep hout hlat
        go_simp
        exact hK _ _ (hJ.plain (by decide) (by decide) (Ex.refl _) (fun x hx => by rw [hT] at hx; first | exact Option.some.inj hx | simpa using hx))
      · rw [if_pos (by rfl)]
        intro K hK
        have q80 := (hdep ⟨3, .data⟩ (by simp) rfl).2 _ rfl _ rfl
        rw [show f 3 = _ from hJ.vals 3 (hdep ⟨3, .data⟩ (by simp) rfl).1 (.bool true) (by rw [hT]; rfl)] at q80
        have q83 := (hdep ⟨6, .data⟩ (by simp) rfl).2 _ rfl _ rfl
        rw [show f 6 = _ from hJ.vals 6 (hdep ⟨6, .data⟩ (by simp) rfl).1 (.bool true) (by rw [hT]; rfl)] at q83
        rw [Array.getD_eq_getD_getElem?] at q80
        rw [Array.getD_eq_getD_getElem?] at q83
        clear hsz hdep hout hlat
        go_simp
        exact hK _ _ (hJ.plain (by decide) (by decide) (Ex.refl _) (fun x hx => by rw [hT] at hx; first | exact Option.some.inj hx | simpa using hx))
      · rw [if_pos (by rfl)]
        intro K hK
        have q84 := (hdep ⟨7, .data⟩ (by simp) rfl).2 _ rfl _ rfl
        rw [show f 7 = _ from hJ.vals 7 (hdep ⟨7, .data⟩ (by simp) rfl).1 (.bool true) (by rw [hT]; rfl)] at q84
        refine wp_mv _ rfl (hK _ _ ?_)
        rw [show a.eval (.tmp 84) = .bool true from q84]
        exact hJ.plain (by decide) (by decide) (Ex.refl _) (fun x hx => by rw [hT] at hx; first | exact Option.some.inj hx | simpa using hx)
      · have kg := (hdep ⟨8, .guard⟩ (by simp) rfl).2 _ rfl _ rfl
        rw [show f 8 = _ from hJ.vals 8 (hdep ⟨8, .guard⟩ (by simp) rfl).1 (.bool true) (by rw [hT]; rfl)] at kg
        rw [if_pos (wanted_of rfl rfl rfl kg)]
        intro K hK
        have q14 := hout 14 (outB_spec (by kernel_rfl))
        refine wp_mv _ rfl (hK _ _ ?_)
        rw [show a.eval (.tmp 14) = .int .i64 1 from q14]
        exact hJ.plain (by decide) (by decide) (Ex.refl _) (fun x hx => by rw [hT] at hx; first | exact Option.some.inj hx | simpa using hx)
      · have kg := (hdep ⟨8, .guard⟩ (by simp) rfl).2 _ rfl _ rfl
        rw [show f 8 = _ from hJ.vals 8 (hdep ⟨8, .guard⟩ (by simp) rfl).1 (.bool true) (by rw [hT]; rfl)] at kg
        rw [if_pos (wanted_of rfl rfl rfl kg)]
        intro K hK
        have q15 := hout 15 (outB_spec (by kernel_rfl))
        refine wp_mv _ rfl (hK _ _ ?_)
        rw [show a.eval (.tmp 15) = .int .i64 1 from q15]
        exact hJ.plain (by decide) (by decide) (Ex.refl _) (fun x hx => by rw [hT] at hx; first | exact Option.some.inj hx | simpa using hx)
      · have kg := (hdep ⟨8, .guard⟩ (by simp) rfl).2 _ rfl _ rfl
        rw [show f 8 = _ from hJ.vals 8 (hdep ⟨8, .guard⟩ (by simp) rfl).1 (.bool true) (by rw [hT]; rfl)] at kg
        rw [if_pos (wanted_of rfl rfl rfl kg)]
        intro K hK
        have q86 := (hdep ⟨9, .data⟩ (by simp) rfl).2 _ rfl _ rfl
        rw [show f 9 = _ from hJ.vals 9 (hdep ⟨9, .data⟩ (by simp) rfl).1 (.int .i64 1) (by rw [hT]; rfl)] at q86
        have q87 := (hdep ⟨10, .data⟩ (by simp) rfl).2 _ rfl _ rfl
        rw [show f 10 = _ from hJ.vals 10 (hdep ⟨10, .data⟩ (by simp) rfl).1 (.int .i64 1) (by rw [hT]; rfl)] at q87
        rw [Array.getD_eq_getD_getElem?] at q86
        rw [Array.getD_eq_getD_getElem?] at q87
        clear hsz hdep hout hlat
        go_simp
        exact hK _ _ (hJ.plain (by decide) (by decide) (Ex.refl _) (fun x hx => by rw [hT] at hx; first | exact Option.some.inj hx | simpa using hx))
      · rw [if_pos (by rfl)]
        intro K hK
        have q85 := (hdep ⟨8, .data⟩ (by simp) rfl).2 _ rfl _ rfl
        rw [show f 8 = _ from hJ.vals 8 (hdep ⟨8, .data⟩ (by simp) rfl).1 (.bool true) (by rw [hT]; rfl)] at q85
        have q88 := (hdep ⟨11, .data⟩ (by simp) rfl).2 _ rfl _ rfl
        rw [show f 11 = _ from hJ.vals 11 (hdep ⟨11, .data⟩ (by simp) rfl).1 (.bool true) (by rw [hT]; rfl)] at q88
        rw [Array.getD_eq_getD_getElem?] at q85
        rw [Array.getD_eq_getD_getElem?] at q88
        clear hsz hdep hout hlat
        go_simp
        exact hK _ _ (hJ.plain (by decide) (by decide) (Ex.refl _) (fun x hx => by rw [hT] at hx; first | exact Option.some.inj hx | simpa using hx))
      · rw [if_pos (by rfl)]
        intro K hK
        have q89 := (hdep ⟨12, .data⟩ (by simp) rfl).2 _ rfl _ rfl
        rw [show f 12 = _ from hJ.vals 12 (hdep ⟨12, .data⟩ (by simp) rfl).1 (.bool true) (by rw [hT]; rfl)] at q89
        refine wp_mv _ rfl (hK _ _ ?_)
        rw [show a.eval (.tmp 89) = .bool true from q89]
        exact hJ.plain (by decide) (by decide) (Ex.refl _) (fun x hx => by rw [hT] at hx; first | exact Option.some.inj hx | simpa using hx)
      · have kg := (hdep ⟨13, .guard⟩ (by simp) rfl).2 _ rfl _ rfl
        rw [show f 13 = _ from hJ.vals 13 (hdep ⟨13, .guard⟩ (by simp) rfl).1 (.bool true) (by rw [hT]; rfl)] at kg
        rw [if_pos (wanted_of rfl rfl rfl kg)]
        intro K hK
        have q17 := hout 17 (outB_spec (by kernel_rfl))
        refine wp_mv _ rfl (hK _ _ ?_)
        rw [show a.eval (.tmp 17) = .bool true from q17]
        exact hJ.plain (by decide) (by decide) (Ex.refl _) (fun x hx => by rw [hT] at hx; first | exact Option.some.inj hx | simpa using hx)
      · have kg := (hdep ⟨13, .guard⟩ (by simp) rfl).2 _ rfl _ rfl
        rw [show f 13 = _ from hJ.vals 13 (hdep ⟨13, .guard⟩ (by simp) rfl).1 (.bool true) (by rw [hT]; rfl)] at kg
        rw [if_pos (wanted_of rfl rfl rfl kg)]
        intro K hK
        have q6 := hout 6 (outB_spec (by kernel_rfl))
        refine wp_ld45g _ (B + 2) _ _ rfl q6 (l0.out.ext hJ.ext) (hK _ _ (hJ.plain (by decide) (by decide) (Ex.refl _) (fun x hx => by rw [hT] at hx; first | exact Option.some.inj hx | simpa using hx)))
      · have kg := (hdep ⟨13, .guard⟩ (by simp) rfl).2 _ rfl _ rfl
        rw [show f 13 = _ from hJ.vals 13 (hdep ⟨13, .guard⟩ (by simp) rfl).1 (.bool true) (by rw [hT]; rfl)] at kg
        rw [if_pos (wanted_of rfl rfl rfl kg)]
        intro K hK
        have q92 := (hdep ⟨15, .data⟩ (by simp) rfl).2 _ rfl _ rfl
        rw [show f 15 = _ from hJ.vals 15 (hdep ⟨15, .data⟩ (by simp) rfl).1 (.agg #[.int .u64 vl, ml]) (by rw [hT]; rfl)] at q92
        rw [Array.getD_eq_getD_getElem?] at q92
        have cm := Lib.hid (RL.out w9 (Ex.trans bw.out hJ.ext))
        clear hsz hdep hout hlat
        go_simp
        refine cm.out.mono ?_
        rintro e w3 ⟨rfl, xq⟩
        exact hK _ _ (hJ.plain (by decide) (by decide) xq (fun x hx => by rw [hT] at hx; first | exact Option.some.inj hx | simpa using hx))
      · have kg := (hdep ⟨13, .guard⟩ (by simp) rfl).2 _ rfl _ rfl
        rw [show f 13 = _ from hJ.vals 13 (hdep ⟨13, .guard⟩ (by simp) rfl).1 (.bool true) (by rw [hT]; rfl)] at kg
        rw [if_pos (wanted_of rfl rfl rfl kg)]
        intro K hK
        have q91 := (hdep ⟨14, .data⟩ (by simp) rfl).2 _ rfl _ rfl
        rw [show f 14 = _ from hJ.vals 14 (hdep ⟨14, .data⟩ (by simp) rfl).1 (.bool true) (by rw [hT]; rfl)] at q91
        have q93 := (hdep ⟨16, .data⟩ (by simp) rfl).2 _ rfl _ rfl
        rw [show f 16 = _ from hJ.vals 16 (hdep ⟨16, .data⟩ (by simp) rfl).1 (.bool true) (by rw [hT]; rfl)] at q93
        rw [Array.getD_eq_getD_getElem?] at q91
        rw [Array.getD_eq_getD_getElem?] at q93
        clear hsz hdep hout hlat
        go_simp
        exact hK _ _ (hJ.plain (by decide) (by decide) (Ex.refl _) (fun x hx => by rw [hT] at hx; first | exact Option.some.inj hx | simpa using hx))
      · rw [if_pos (by rfl)]
        intro K hK
        have q90 := (hdep ⟨13, .data⟩ (by simp) rfl).2 _ rfl _ rfl
        rw [show f 13 = _ from hJ.vals 13 (hdep ⟨13, .data⟩ (by simp) rfl).1 (.bool true) (by rw [hT]; rfl)] at q90
        have q94 := (hdep ⟨17, .data⟩ (by simp) rfl).2 _ rfl _ rfl
        rw [show f 17 = _ from hJ.vals 17 (hdep ⟨17, .data⟩ (by simp) rfl).1 (.bool true) (by rw [hT]; rfl)] at q94
        rw [Array.getD_eq_getD_getElem?] at q90
        rw [Array.getD_eq_getD_getElem?] at q94
        clear hsz hdep hout hlat
        go_simp
        exact hK _ _ (hJ.plain (by decide) (by decide) (Ex.refl _) (fun x hx => by rw [hT] at hx; first | exact Option.some.inj hx | simpa using hx))
      · rw [if_pos (by rfl)]
        intro K hK
        have q95 := (hdep ⟨18, .data⟩ (by simp) rfl).2 _ rfl _ rfl
        rw [show f 18 = _ from hJ.vals 18 (hdep ⟨18, .data⟩ (by simp) rfl).1 (.bool true) (by rw [hT]; rfl)] at q95
        refine wp_mv _ rfl (hK _ _ ?_)
        rw [show a.eval (.tmp 95) = .bool true from q95]
        exact hJ.plain (by decide) (by decide) (Ex.refl _) (fun x hx => by rw [hT] at hx; first | exact Option.some.inj hx | simpa using hx)
      · have kg := (hdep ⟨19, .guard⟩ (by simp) rfl).2 _ rfl _ rfl
        rw [show f 19 = _ from hJ.vals 19 (hdep ⟨19, .guard⟩ (by simp) rfl).1 (.bool true) (by rw [hT]; rfl)] at kg
        rw [if_pos (wanted_of rfl rfl rfl kg)]
        intro K hK
        have q17 := hout 17 (outB_spec (by kernel_rfl))
        refine wp_mv _ rfl (hK _ _ ?_)
        rw [show a.eval (.tmp 17) = .bool true from q17]
        exact hJ.plain (by decide) (by decide) (Ex.refl _) (fun x hx => by rw [hT] at hx; first | exact Option.some.inj hx | simpa using hx)
      · have kg := (hdep ⟨19, .guard⟩ (by simp) rfl).2 _ rfl _ rfl
        rw [show f 19 = _ from hJ.vals 19 (hdep ⟨19, .guard⟩ (by simp) rfl).1 (.bool true) (by rw [hT]; rfl)] at kg
        rw [if_pos (wanted_of rfl rfl rfl kg)]
        intro K hK
        have q97 := (hdep ⟨20, .data⟩ (by simp) rfl).2 _ rfl _ rfl
        rw [show f 20 = _ from hJ.vals 20 (hdep ⟨20, .data⟩ (by simp) rfl).1 (.bool true) (by rw [hT]; rfl)] at q97
        rw [Array.getD_eq_getD_getElem?] at q97
        clear hsz hdep hout hlat
        go_simp
        exact hK _ _ (hJ.plain (by decide) (by decide) (Ex.refl _) (fun x hx => by rw [hT] at hx; first | exact Option.some.inj hx | simpa using hx))
      · have kg := (hdep ⟨19, .guard⟩ (by simp) rfl).2 _ rfl _ rfl
        rw [show f 19 = _ from hJ.vals 19 (hdep ⟨19, .guard⟩ (by simp) rfl).1 (.bool true) (by rw [hT]; rfl)] at kg
        rw [if_pos (wanted_of rfl rfl rfl kg)]
        intro K hK
        have q98 := (hdep ⟨21, .data⟩ (by simp) rfl).2 _ rfl _ rfl
        rw [show f 21 = _ from hJ.vals 21 (hdep ⟨21, .data⟩ (by simp) rfl).1 (.bool false) (by rw [hT]; rfl)] at q98
        refine wp_mv _ rfl (hK _ _ ?_)
        rw [show a.eval (.tmp 98) = .bool false from q98]
        exact hJ.plain (by decide) (by decide) (Ex.refl _) (fun x hx => by rw [hT] at hx; first | exact Option.some.inj hx | simpa using hx)
      · have kg := (hdep ⟨22, .guard⟩ (by simp) rfl).2 _ rfl _ rfl
        rw [show f 22 = _ from hJ.vals 22 (hdep ⟨22, .guard⟩ (by simp) rfl).1 (.bool false) (by rw [hT]; rfl)] at kg
        rw [if_neg (not_wanted rfl rfl rfl kg (by decide))]
        exact hJ.plain (by decide) (by decide) (Ex.refl _) (fun x hx => by rw [hT] at hx; change none = some x at hx; cases hx)
      · have kg := (hdep ⟨22, .guard⟩ (by simp) rfl).2 _ rfl _ rfl
        rw [show f 22 = _ from hJ.vals 22 (hdep ⟨22, .guard⟩ (by simp) rfl).1 (.bool false) (by rw [hT]; rfl)] at kg
        rw [if_neg (not_wanted rfl rfl rfl kg (by decide))]
        exact hJ.plain (by decide) (by decide) (Ex.refl _) (fun x hx => by rw [hT] at hx; change none = some x at hx; cases hx)
      · have kg := (hdep ⟨22, .guard⟩ (by simp) rfl).2 _ rfl _ rfl
        rw [show f 22 = _ from hJ.vals 22 (hdep ⟨22, .guard⟩ (by simp) rfl).1 (.bool false) (by rw [hT]; rfl)] at kg
        rw [if_neg (not_wanted rfl rfl rfl kg (by decide))]
        exact hJ.plain (by decide) (by decide) (Ex.refl _) (fun x hx => by rw [hT] at hx; change none = some x at hx; cases hx)
      · have kg := (hdep ⟨19, .guard⟩ (by simp) rfl).2 _ rfl _ rfl
        rw [show f 19 = _ from hJ.vals 19 (hdep ⟨19, .guard⟩ (by simp) rfl).1 (.bool true) (by rw [hT]; rfl)] at kg
        rw [if_pos (wanted_of rfl rfl rfl kg)]
        intro K hK
        have q99 := (hdep ⟨22, .data⟩ (by simp) rfl).2 _ rfl _ rfl
        rw [show f 22 = _ from hJ.vals 22 (hdep ⟨22, .data⟩ (by simp) rfl).1 (.bool false) (by rw [hT]; rfl)] at q99
        have q102 := (hdep ⟨25, .data⟩ (by simp) rfl).2 _ rfl _ rfl
        rw [Array.getD_eq_getD_getElem?] at q99
        rw [Array.getD_eq_getD_getElem?] at q102
        clear hsz hdep hout hlat
        go_simp
        exact hK _ _ (hJ.plain (by decide) (by decide) (Ex.refl _) (fun x hx => by rw [hT] at hx; first | exact Option.some.inj hx | simpa using hx))
      · have kg := (hdep ⟨19, .guard⟩ (by simp) rfl).2 _ rfl _ rfl
        rw [show f 19 = _ from hJ.vals 19 (hdep ⟨19, .guard⟩ (by simp) rfl).1 (.bool true) (by rw [hT]; rfl)] at kg
        rw [if_pos (wanted_of rfl rfl rfl kg)]
        intro K hK
        have q103 := (hdep ⟨26, .data⟩ (by simp) rfl).2 _ rfl _ rfl
        rw [show f 26 = _ from hJ.vals 26 (hdep ⟨26, .data⟩ (by simp) rfl).1 (.bool false) (by rw [hT]; rfl)] at q103
        refine wp_mv _ rfl (hK _ _ ?_)
        rw [show a.eval (.tmp 103) = .bool false from q103]
        exact hJ.plain (by decide) (by decide) (Ex.refl _) (fun x hx => by rw [hT] at hx; first | exact Option.some.inj hx | simpa using hx)
      · have kg := (hdep ⟨27, .guard⟩ (by simp) rfl).2 _ rfl _ rfl
        rw [show f 27 = _ from hJ.vals 27 (hdep ⟨27, .guard⟩ (by simp) rfl).1 (.bool false) (by rw [hT]; rfl)] at kg
        rw [if_pos (wanted_of rfl rfl rfl kg)]
        intro K hK
        have q17 := hout 17 (outB_spec (by kernel_rfl))
        refine wp_mv _ rfl (hK _ _ ?_)
        rw [show a.eval (.tmp 17) = .bool true from q17]
        exact hJ.plain (by decide) (by decide) (Ex.refl _) (fun x hx => by rw [hT] at hx; first | exact Option.some.inj hx | simpa using hx)
      · have kg := (hdep ⟨27, .guard⟩ (by simp) rfl).2 _ rfl _ rfl
        rw [show f 27 = _ from hJ.vals 27 (hdep ⟨27, .guard⟩ (by simp) rfl).1 (.bool false) (by rw [hT]; rfl)] at kg
        rw [if_pos (wanted_of rfl rfl rfl kg)]
        intro K hK
        have q105 := (hdep ⟨28, .data⟩ (by simp) rfl).2 _ rfl _ rfl
        rw [show f 28 = _ from hJ.vals 28 (hdep ⟨28, .data⟩ (by simp) rfl).1 (.bool true) (by rw [hT]; rfl)] at q105
        refine wp_mv _ rfl (hK _ _ ?_)
        rw [show a.eval (.tmp 105) = .bool true from q105]
        exact hJ.plain (by decide) (by decide) (Ex.refl _) (fun x hx => by rw [hT] at hx; first | exact Option.some.inj hx | simpa using hx)
      · have kg := (hdep ⟨29, .guard⟩ (by simp) rfl).2 _ rfl _ rfl
        rw [show f 29 = _ from hJ.vals 29 (hdep ⟨29, .guard⟩ (by simp) rfl).1 (.bool true) (by rw [hT]; rfl)] at kg
        rw [if_pos (wanted_of rfl rfl rfl kg)]
        intro K hK
        have q16 := hout 16 (outB_spec (by kernel_rfl))
        exact Sm.wp_ld _ g16 (markL C vl pl.l) rfl q16 (DB.ext D9.out hJ.ext) (hK _ _ (hJ.plain (by decide) (by decide) (Ex.refl _) (fun x hx => by rw [hT] at hx; first | exact Option.some.inj hx | simpa using hx)))
      · have kg := (hdep ⟨29, .guard⟩ (by simp) rfl).2 _ rfl _ rfl
        rw [show f 29 = _ from hJ.vals 29 (hdep ⟨29, .guard⟩ (by simp) rfl).1 (.bool true) (by rw [hT]; rfl)] at kg
        rw [if_pos (wanted_of rfl rfl rfl kg)]
        intro K hK
        have q4 := hout 4 (outB_spec (by kernel_rfl))
        exact Sm.wp_ld _ B C rfl q4 (d0.out.ext hJ.ext) (hK _ _ (hJ.plain (by decide) (by decide) (Ex.refl _) (fun x hx => by rw [hT] at hx; first | exact Option.some.inj hx | simpa using hx)))
      · have kg := (hdep ⟨29, .guard⟩ (by simp) rfl).2 _ rfl _ rfl
        rw [show f 29 = _ from hJ.vals 29 (hdep ⟨29, .guard⟩ (by simp) rfl).1 (.bool true) (by rw [hT]; rfl)] at kg
        rw [if_pos (wanted_of rfl rfl rfl kg)]
        intro K hK
        have q6 := hout 6 (outB_spec (by kernel_rfl))
        refine wp_ld45g _ (B + 2) _ _ rfl q6 (l0.out.ext hJ.ext) (hK _ _ (hJ.plain (by decide) (by decide) (Ex.refl _) (fun x hx => by rw [hT] at hx; first | exact Option.some.inj hx | simpa using hx)))
      · have kg := (hdep ⟨29, .guard⟩ (by simp) rfl).2 _ rfl _ rfl
        rw [show f 29 = _ from hJ.vals 29 (hdep ⟨29, .guard⟩ (by simp) rfl).1 (.bool true) (by rw [hT]; rfl)] at kg
        rw [if_pos (wanted_of rfl rfl rfl kg)]
        intro K hK
        have q108 := (hdep ⟨31, .data⟩ (by simp) rfl).2 _ rfl _ rfl
        rw [show f 31 = _ from hJ.vals 31 (hdep ⟨31, .data⟩ (by simp) rfl).1 (digV C) (by rw [hT]; rfl)] at q108
        have q109 := (hdep ⟨32, .data⟩ (by simp) rfl).2 _ rfl _ rfl
        rw [show f 32 = _ from hJ.vals 32 (hdep ⟨32, .data⟩ (by simp) rfl).1 (.agg #[.int .u64 vl, ml]) (by rw [hT]; rfl)] at q109
        rw [Array.getD_eq_getD_getElem?] at q108
        rw [Array.getD_eq_getD_getElem?] at q109
        have cm := Lib.hid (MR.out w9 (Ex.trans bw.out hJ.ext))
        clear hsz hdep hout hlat
        go_simp
        refine cm.out.mono ?_
        rintro e w3 ⟨rfl, xq⟩
        exact hK _ _ (hJ.plain (by decide) (by decide) xq (fun x hx => by rw [hT] at hx; first | exact Option.some.inj hx | simpa using hx))
      · have kg := (hdep ⟨29, .guard⟩ (by simp) rfl).2 _ rfl _ rfl
        rw [show f 29 = _ from hJ.vals 29 (hdep ⟨29, .guard⟩ (by simp) rfl).1 (.bool true) (by rw [hT]; rfl)] at kg
        rw [if_pos (wanted_of rfl rfl rfl kg)]
        intro K hK
        have q107 := (hdep ⟨30, .data⟩ (by simp) rfl).2 _ rfl _ rfl
        rw [show f 30 = _ from hJ.vals 30 (hdep ⟨30, .data⟩ (by simp) rfl).1 (digV (markL C vl pl.l)) (by rw [hT]; rfl)] at q107
        have q110 := (hdep ⟨33, .data⟩ (by simp) rfl).2 _ rfl _ rfl
        rw [show f 33 = _ from hJ.vals 33 (hdep ⟨33, .data⟩ (by simp) rfl).1 (digV (markL C vl pl.l)) (by rw [hT]; rfl)] at q110
        refine Sm.wp_eql_dig _ _ _ rfl (markL C vl pl.l) (markL C vl pl.l) rfl rfl q107 q110 ?_
        rw [decide_eq_true rfl]
        exact hK _ _ (hJ.plain (by decide) (by decide) (Ex.refl _) (fun x hx => by rw [hT] at hx; first | exact Option.some.inj hx | simpa using hx))
      · have kg := (hdep ⟨27, .guard⟩ (by simp) rfl).2 _ rfl _ rfl
        rw [show f 27 = _ from hJ.vals 27 (hdep ⟨27, .guard⟩ (by simp) rfl).1 (.bool false) (by rw [hT]; rfl)] at kg
        rw [if_pos (wanted_of rfl rfl rfl kg)]
        intro K hK
        have q106 := (hdep ⟨29, .data⟩ (by simp) rfl).2 _ rfl _ rfl
        rw [show f 29 = _ from hJ.vals 29 (hdep ⟨29, .data⟩ (by simp) rfl).1 (.bool true) (by rw [hT]; rfl)] at q106
        have q111 := (hdep ⟨34, .data⟩ (by simp) rfl).2 _ rfl _ rfl
        rw [show f 34 = _ from hJ.vals 34 (hdep ⟨34, .data⟩ (by simp) rfl).1 (.bool true) (by rw [hT]; rfl)] at q111
        rw [Array.getD_eq_getD_getElem?] at q106
        rw [Array.getD_eq_getD_getElem?] at q111
        clear hsz hdep hout hlat
        go_simp
        exact hK _ _ (hJ.plain (by decide) (by decide) (Ex.refl _) (fun x hx => by rw [hT] at hx; first | exact Option.some.inj hx | simpa using hx))
      · have kg := (hdep ⟨19, .guard⟩ (by simp) rfl).2 _ rfl _ rfl
        rw [show f 19 = _ from hJ.vals 19 (hdep ⟨19, .guard⟩ (by simp) rfl).1 (.bool true) (by rw [hT]; rfl)] at kg
        rw [if_pos (wanted_of rfl rfl rfl kg)]
        intro K hK
        have q104 := (hdep ⟨27, .data⟩ (by simp) rfl).2 _ rfl _ rfl
        rw [show f 27 = _ from hJ.vals 27 (hdep ⟨27, .data⟩ (by simp) rfl).1 (.bool false) (by rw [hT]; rfl)] at q104
        have q112 := (hdep ⟨35, .data⟩ (by simp) rfl).2 _ rfl _ rfl
        rw [show f 35 = _ from hJ.vals 35 (hdep ⟨35, .data⟩ (by simp) rfl).1 (.bool true) (by rw [hT]; rfl)] at q112
        rw [Array.getD_eq_getD_getElem?] at q104
        rw [Array.getD_eq_getD_getElem?] at q112
        clear hsz hdep hout hlat
        go_simp
        exact hK _ _ (hJ.plain (by decide) (by decide) (Ex.refl _) (fun x hx => by rw [hT] at hx; first | exact Option.some.inj hx | simpa using hx))
      · rw [if_pos (by rfl)]
        intro K hK
        have q96 := (hdep ⟨19, .data⟩ (by simp) rfl).2 _ rfl _ rfl
        rw [show f 19 = _ from hJ.vals 19 (hdep ⟨19, .data⟩ (by simp) rfl).1 (.bool true) (by rw [hT]; rfl)] at q96
        have q113 := (hdep ⟨36, .data⟩ (by simp) rfl).2 _ rfl _ rfl
        rw [show f 36 = _ from hJ.vals 36 (hdep ⟨36, .data⟩ (by simp) rfl).1 (.bool true) (by rw [hT]; rfl)] at q113
        rw [Array.getD_eq_getD_getElem?] at q96
        rw [Array.getD_eq_getD_getElem?] at q113
        clear hsz hdep hout hlat
        go_simp
        exact hK _ _ (hJ.plain (by decide) (by decide) (Ex.refl _) (fun x hx => by rw [hT] at hx; first | exact Option.some.inj hx | simpa using hx))
      · rw [if_pos (by rfl)]
        intro K hK
        have q114 := (hdep ⟨37, .data⟩ (by simp) rfl).2 _ rfl _ rfl
        rw [show f 37 = _ from hJ.vals 37 (hdep ⟨37, .data⟩ (by simp) rfl).1 (.bool true) (by rw [hT]; rfl)] at q114
        rw [Array.getD_eq_getD_getElem?] at q114
        clear hsz hdep hout hlat
        go_simp
        exact hK _ _ (hJ.plain (by decide) (by decide) (Ex.refl _) (fun x hx => by rw [hT] at hx; first | exact Option.some.inj hx | simpa using hx))
    · intro listed f w9 hall hJ
      have f0 : f 0 = .int .i64 cN := hJ.vals 0 (hall 0 (by simp)) _ (by rw [hT]; rfl)
      have f1 : f 1 = .int .i64 cN := hJ.vals 1 (hall 1 (by simp)) _ (by rw [hT]; rfl)
      have f2 : f 2 = .bool true := hJ.vals 2 (hall 2 (by simp)) _ (by rw [hT]; rfl)
      have f3 : f 3 = .bool true := hJ.vals 3 (hall 3 (by simp)) _ (by rw [hT]; rfl)
      have f4 : f 4 = .bool cb := hJ.vals 4 (hall 4 (by simp)) _ (by rw [hT]; rfl)
      have f5 : f 5 = .bool cb := hJ.vals 5 (hall 5 (by simp)) _ (by rw [hT]; rfl)
      have f6 : f 6 = .bool true := hJ.vals 6 (hall 6 (by simp)) _ (by rw [hT]; rfl)
      have f7 : f 7 = .bool true := hJ.vals 7 (hall 7 (by simp)) _ (by rw [hT]; rfl)
      have f8 : f 8 = .bool true := hJ.vals 8 (hall 8 (by simp)) _ (by rw [hT]; rfl)
      have f9 : f 9 = .int .i64 1 := hJ.vals 9 (hall 9 (by simp)) _ (by rw [hT]; rfl)
      have f10 : f 10 = .int .i64 1 := hJ.vals 10 (hall 10 (by simp)) _ (by rw [hT]; rfl)
      have f11 : f 11 = .bool true := hJ.vals 11 (hall 11 (by simp)) _ (by rw [hT]; rfl)
      have f12 : f 12 = .bool true := hJ.vals 12 (hall 12 (by simp)) _ (by rw [hT]; rfl)
      have f13 : f 13 = .bool true := hJ.vals 13 (hall 13 (by simp)) _ (by rw [hT]; rfl)
      have f14 : f 14 = .bool true := hJ.vals 14 (hall 14 (by simp)) _ (by rw [hT]; rfl)
      have f15 : f 15 = .agg #[.int .u64 vl, ml] := hJ.vals 15 (hall 15 (by simp)) _ (by rw [hT]; rfl)
      have f16 : f 16 = .bool true := hJ.vals 16 (hall 16 (by simp)) _ (by rw [hT]; rfl)
      have f17 : f 17 = .bool true := hJ.vals 17 (hall 17 (by simp)) _ (by rw [hT]; rfl)
      have f18 : f 18 = .bool true := hJ.vals 18 (hall 18 (by simp)) _ (by rw [hT]; rfl)
      have f19 : f 19 = .bool true := hJ.vals 19 (hall 19 (by simp)) _ (by rw [hT]; rfl)
      have f20 : f 20 = .bool true := hJ.vals 20 (hall 20 (by simp)) _ (by rw [hT]; rfl)
      have f21 : f 21 = .bool false := hJ.vals 21 (hall 21 (by simp)) _ (by rw [hT]; rfl)
      have f22 : f 22 = .bool false := hJ.vals 22 (hall 22 (by simp)) _ (by rw [hT]; rfl)
      have f26 : f 26 = .bool false := hJ.vals 26 (hall 26 (by simp)) _ (by rw [hT]; rfl)
      have f27 : f 27 = .bool false := hJ.vals 27 (hall 27 (by simp)) _ (by rw [hT]; rfl)
      have f28 : f 28 = .bool true := hJ.vals 28 (hall 28 (by simp)) _ (by rw [hT]; rfl)
      have f29 : f 29 = .bool true := hJ.vals 29 (hall 29 (by simp)) _ (by rw [hT]; rfl)
      have f30 : f 30 = digV (markL C vl pl.l) := hJ.vals 30 (hall 30 (by simp)) _ (by rw [hT]; rfl)
      have f31 : f 31 = digV C := hJ.vals 31 (hall 31 (by simp)) _ (by rw [hT]; rfl)
      have f32 : f 32 = .agg #[.int .u64 vl, ml] := hJ.vals 32 (hall 32 (by simp)) _ (by rw [hT]; rfl)
      have f33 : f 33 = digV (markL C vl pl.l) := hJ.vals 33 (hall 33 (by simp)) _ (by rw [hT]; rfl)
      have f34 : f 34 = .bool true := hJ.vals 34 (hall 34 (by simp)) _ (by rw [hT]; rfl)
      have f35 : f 35 = .bool true := hJ.vals 35 (hall 35 (by simp)) _ (by rw [hT]; rfl)
      have f36 : f 36 = .bool true := hJ.vals 36 (hall 36 (by simp)) _ (by rw [hT]; rfl)
      have f37 : f 37 = .bool true := hJ.vals 37 (hall 37 (by simp)) _ (by rw [hT]; rfl)
      have f38 : f 38 = .bool true := hJ.vals 38 (hall 38 (by simp)) _ (by rw [hT]; rfl)
      have xw := hJ.ext
      simp only [putAll, Act.put, List.setIfInBounds_toArray, List.set_cons_zero, List.set_cons_succ, Nat.zero_add, Nat.reduceAdd]
      rw [f0, f1, f2, f3, f4, f5, f6, f7, f8, f9, f10, f11, f12, f13, f14, f15, f16, f17, f18, f19, f20, f21, f22, f26, f27, f28, f29, f30, f31, f32, f33, f34, f35, f36, f37, f38]
      clear f0 f1 f2 f3 f4 f5 f6 f7 f8 f9 f10 f11 f12 f13 f14 f15 f16 f17 f18 f19 f20 f21 f22 f26 f27 f28 f29 f30 f31 f32 f33 f34 f35 f36 f37 f38 hJ hall hT
      generalize f 23 = y23
      generalize f 24 = y24
      generalize f 25 = y25
      replace bw := Lib.hid (Ex.trans bw.out xw)
      clear xw
      go_wp2_with (first | (with_reducible refine Sm.stop_load59 ?_) | (with_reducible refine Sm.stop_store59 ?_) | (with_reducible refine stop_load45 ?_) | (with_reducible refine stop_store45 ?_))
      go_ret
      exact ⟨rfl, bw.out⟩
set_option maxHeartbeats 8000000 in
set_option maxRecDepth 100000 in
theorem same15_B (C : List UInt8) (hC : C.length = 16) (va vl : Int) (hv0 : 0 ≤ vl) (hv1 : vl < 18446744073709551616) (pa pl : Pt) (q : Vp) (w : World) (ha : pa.In w w.heap.size) (hl : pl.In w w.heap.size) (hq : q.In w w.heap.size) (hL : q.l.length ≤ 9223372036854775807) (hLl : pl.l.length ≤ 9223372036854775807) (hf : followsB va pa.l vl pl.l = true) (hc : chkB C va pa.l vl pl.l q.l = false) :
    Calls Try.prog 38 #[digV C, LV va pa, LV vl pl, q.V] w fun e w' => e = .returned (.bool true) ∧ Below w.heap.size w w' := by
  obtain ⟨ma, hma⟩ : ∃ ma : Value, ma = pa.V := ⟨_, rfl⟩
  obtain ⟨ml, hml⟩ : ∃ ml : Value, ml = pl.V := ⟨_, rfl⟩
  obtain ⟨qv, hqv⟩ : ∃ qv, qv = q.V := ⟨_, rfl⟩
  obtain ⟨cN, hcN⟩ : ∃ cN : Int, cN = (chkN C va pa.l vl pl.l q.l : Nat) := ⟨_, rfl⟩
  obtain ⟨cb, hcb⟩ : ∃ cb, cb = chkB C va pa.l vl pl.l q.l := ⟨_, rfl⟩
  have HML := Lib.hid hml
  have FO := Lib.hid (fun W (h : Ex w W) => (show Calls Try.prog 28 #[.agg #[.int .u64 va, ma], .agg #[.int .u64 vl, ml]] W fun e w' => e = .returned (.bool true) ∧ Below W.heap.size W w' by rw [hma, hml, ← hf]; exact follows_any va vl pa pl W (ha.ext h) (hl.ext h) hLl))
  have CH := Lib.hid (fun W (h : Ex w W) => (show Calls Try.prog 43 #[digV C, .agg #[.int .u64 va, ma], .agg #[.int .u64 vl, ml], qv] W fun e w' => e = .returned (.tuple #[.int .i64 cN, .bool false]) ∧ Below W.heap.size W w' by rw [hma, hml, hcN, ← hc, hqv]; exact check_any C hC va vl hv0 hv1 pa pl q W (ha.ext h) (hl.ext h) (hq.ext h) hL))
  have RC := Lib.hid (fun W (h : Ex w W) => (show Calls Try.prog 54 #[digV C, .agg #[.int .u64 va, ma], .agg #[.int .u64 vl, ml], qv] W fun e w' => e = .returned (.tuple #[.int .i64 cN, .bool false]) ∧ Below W.heap.size W w' by rw [hma, hml, hcN, ← hc, hqv]; exact rcheck_any C hC va vl hv0 hv1 pa pl q W (ha.ext h) (hl.ext h) (hq.ext h) hL))
  have AD := Lib.hid (fun W (h : Ex w W) => (show Calls Try.prog 55 #[digV C, .agg #[.int .u64 va, ma], .agg #[.int .u64 vl, ml], qv] W (AdPost 0 [] 30 W) by
    have h := adopt_any C hC va vl hv0 hv1 pa pl q W (ha.ext h) (hl.ext h) (hq.ext h) hL hLl
    unfold adV adL adE at h
    rw [hf, hc] at h
    rw [hma, hml, hqv]; exact h))
  have RL := Lib.hid (fun W (h : Ex w W) => (show Calls Try.prog 49 #[.agg #[.int .u64 vl, ml]] W fun e w' => e = .returned (.bool (rightB vl pl.l)) ∧ Below W.heap.size W w' by rw [hml]; exact right_any vl pl W (hl.ext h)))
  have MK := Lib.hid (fun W (h : Ex w W) => (show Calls Try.prog 56 #[digV C, .agg #[.int .u64 vl, ml]] W fun e w' => e = .returned (.tuple #[digV (markR C vl pl.l), .bool (rightB vl pl.l)]) ∧ Below W.heap.size W w' by rw [hml]; exact mark_any C hC vl hv0 hv1 pl W (hl.ext h)))
  have MR0 := Lib.hid (fun (hr : rightB vl pl.l = true) W (h : Ex w W) => (show Calls Try.prog 57 #[digV C, .agg #[.int .u64 vl, ml]] W fun e w' => e = .returned (digV (markL C vl pl.l)) ∧ Below W.heap.size W w' by rw [hml]; exact rmark_any C hC vl hv0 hv1 pl (right_len hr).2.2.2.1 W (hl.ext h)))
  obtain ⟨cs, hcs⟩ : ∃ cs, cs = (Lib.byteCells C).toArray := ⟨_, rfl⟩
  have d0 : Hid (DB (((w.alloc (.cells cs 59)).alloc (.cells #[.int .u64 va, ma] 45)).alloc (.cells #[.int .u64 vl, ml] 45)) w.heap.size C) := Lib.hid ⟨hC, by rw [hcs]; exact ((Sm.Bk.new rfl _ _).more _).more _⟩
  have a0 : Hid (Bk (((w.alloc (.cells cs 59)).alloc (.cells #[.int .u64 va, ma] 45)).alloc (.cells #[.int .u64 vl, ml] 45)) (w.heap.size + 1) 45 #[.int .u64 va, ma]) := Lib.hid ((Bk.new (by simp) _ _).more _)
  have l0 : Hid (Bk (((w.alloc (.cells cs 59)).alloc (.cells #[.int .u64 va, ma] 45)).alloc (.cells #[.int .u64 vl, ml] 45)) (w.heap.size + 2) 45 #[.int .u64 vl, ml]) := Lib.hid (Bk.new (by simp) _ _)
  have BW := Lib.hid (show Ex w (((w.alloc (.cells cs 59)).alloc (.cells #[.int .u64 va, ma] 45)).alloc (.cells #[.int .u64 vl, ml] 45)) from (((Below.refl _ _).alloc (Nat.le_refl _) _).alloc (by simp) _).alloc (by simp; omega) _)
  rw [show (Calls Try.prog 38 #[digV C, LV va pa, LV vl pl, q.V] w) = (Calls Try.prog 38 #[.agg cs, .agg #[.int .u64 va, ma], .agg #[.int .u64 vl, ml], qv] w) by rw [hcs, hma, hml, hqv]; rfl]
  rw [hc] at hcb
  subst hcb
  clear hcs hma hml hqv hv0 hv1 hC ha hq hL hLl hl hf hcN hc
  go_enter Try.func38, Try.ntmps38
  go_wp2_with (first | (with_reducible refine Sm.stop_load59 ?_) | (with_reducible refine Sm.stop_store59 ?_) | (with_reducible refine stop_load45 ?_) | (with_reducible refine stop_store45 ?_))
  have bw := BW.out
  generalize hw1 : ((w.alloc (.cells cs 59)).alloc (.cells #[.int .u64 va, ma] 45)).alloc (.cells #[.int .u64 vl, ml] 45) = w1 at *
  obtain ⟨B, hB⟩ : ∃ B, B = w.heap.size := ⟨_, rfl⟩
  rw [← hB] at d0 a0 l0 ⊢
  have HB := Lib.hid hB
  clear hw1 hB BW
  have bw := Lib.hid bw
  (with_reducible refine ⟨?_⟩); (with_reducible refine at_any ?_ ?_); (focus go_simp); refine fun K0 hK => Sm.wp_ld _ B C rfl rfl d0.out (hK _ _ ?_)
  clear hK
  go_wp2_with (first | (with_reducible refine Sm.stop_load59 ?_) | (with_reducible refine Sm.stop_store59 ?_) | (with_reducible refine stop_load45 ?_) | (with_reducible refine stop_store45 ?_))
  (with_reducible refine ⟨?_⟩); (with_reducible refine at_any ?_ ?_); (focus go_simp); refine fun K0 hK => wp_ld45g _ (B + 1) _ _ rfl rfl a0.out (hK _ _ ?_)
  clear hK
  go_wp2_with (first | (with_reducible refine Sm.stop_load59 ?_) | (with_reducible refine Sm.stop_store59 ?_) | (with_reducible refine stop_load45 ?_) | (with_reducible refine stop_store45 ?_))
  (with_reducible refine ⟨?_⟩); (with_reducible refine at_any ?_ ?_); (focus go_simp); refine fun K0 hK => wp_ld45g _ (B + 2) _ _ rfl rfl l0.out (hK _ _ ?_)
  clear hK
  have C1 := Lib.hid (CH.out _ bw.out)
  clear CH
  go_wp2_with (first | (with_reducible refine Sm.stop_load59 ?_) | (with_reducible refine Sm.stop_store59 ?_) | (with_reducible refine stop_load45 ?_) | (with_reducible refine stop_store45 ?_))
  refine C1.out.mono ?_
  rintro e w2 ⟨rfl, xr⟩
  replace d0 := Lib.hid (d0.out.ext xr)
  replace a0 := Lib.hid (a0.out.ext xr)
  replace l0 := Lib.hid (l0.out.ext xr)
  replace bw := Lib.hid (Ex.trans bw.out xr)
  clear C1 xr
  go_wp2_with (first | (with_reducible refine Sm.stop_load59 ?_) | (with_reducible refine Sm.stop_store59 ?_) | (with_reducible refine stop_load45 ?_) | (with_reducible refine stop_store45 ?_))
  (with_reducible refine ⟨?_⟩); (with_reducible refine at_any ?_ ?_); (focus go_simp); refine fun K0 hK => Sm.wp_ld _ B C rfl rfl d0.out (hK _ _ ?_)
  clear hK
  go_wp2_with (first | (with_reducible refine Sm.stop_load59 ?_) | (with_reducible refine Sm.stop_store59 ?_) | (with_reducible refine stop_load45 ?_) | (with_reducible refine stop_store45 ?_))
  (with_reducible refine ⟨?_⟩); (with_reducible refine at_any ?_ ?_); (focus go_simp); refine fun K0 hK => wp_ld45g _ (B + 1) _ _ rfl rfl a0.out (hK _ _ ?_)
  clear hK
  go_wp2_with (first | (with_reducible refine Sm.stop_load59 ?_) | (with_reducible refine Sm.stop_store59 ?_) | (with_reducible refine stop_load45 ?_) | (with_reducible refine stop_store45 ?_))
  (with_reducible refine ⟨?_⟩); (with_reducible refine at_any ?_ ?_); (focus go_simp); refine fun K0 hK => wp_ld45g _ (B + 2) _ _ rfl rfl l0.out (hK _ _ ?_)
  clear hK
  have C1 := Lib.hid (RC.out _ bw.out)
  clear RC
  go_wp2_with (first | (with_reducible refine Sm.stop_load59 ?_) | (with_reducible refine Sm.stop_store59 ?_) | (with_reducible refine stop_load45 ?_) | (with_reducible refine stop_store45 ?_))
  refine C1.out.mono ?_
  rintro e w3 ⟨rfl, xr⟩
  replace d0 := Lib.hid (d0.out.ext xr)
  replace a0 := Lib.hid (a0.out.ext xr)
  replace l0 := Lib.hid (l0.out.ext xr)
  replace bw := Lib.hid (Ex.trans bw.out xr)
  clear C1 xr
  go_wp2_with (first | (with_reducible refine Sm.stop_load59 ?_) | (with_reducible refine Sm.stop_store59 ?_) | (with_reducible refine stop_load45 ?_) | (with_reducible refine stop_store45 ?_))
  (with_reducible refine ⟨?_⟩); (with_reducible refine at_any ?_ ?_); (focus go_simp); refine fun K0 hK => Sm.wp_ld _ B C rfl rfl d0.out (hK _ _ ?_)
  clear hK
  go_wp2_with (first | (with_reducible refine Sm.stop_load59 ?_) | (with_reducible refine Sm.stop_store59 ?_) | (with_reducible refine stop_load45 ?_) | (with_reducible refine stop_store45 ?_))
  (with_reducible refine ⟨?_⟩); (with_reducible refine at_any ?_ ?_); (focus go_simp); refine fun K0 hK => wp_ld45g _ (B + 1) _ _ rfl rfl a0.out (hK _ _ ?_)
  clear hK
  go_wp2_with (first | (with_reducible refine Sm.stop_load59 ?_) | (with_reducible refine Sm.stop_store59 ?_) | (with_reducible refine stop_load45 ?_) | (with_reducible refine stop_store45 ?_))
  (with_reducible refine ⟨?_⟩); (with_reducible refine at_any ?_ ?_); (focus go_simp); refine fun K0 hK => wp_ld45g _ (B + 2) _ _ rfl rfl l0.out (hK _ _ ?_)
  clear hK
  have C1 := Lib.hid (AD.out _ bw.out)
  clear AD
  go_wp2_with (first | (with_reducible refine Sm.stop_load59 ?_) | (with_reducible refine Sm.stop_store59 ?_) | (with_reducible refine stop_load45 ?_) | (with_reducible refine stop_store45 ?_))
  refine C1.out.mono ?_
  rintro e w4 ⟨px, rfl, hxl, hx, xr⟩
  replace d0 := Lib.hid (d0.out.ext xr)
  replace a0 := Lib.hid (a0.out.ext xr)
  replace l0 := Lib.hid (l0.out.ext xr)
  replace bw := Lib.hid (Ex.trans bw.out xr)
  have HXL := Lib.hid hxl
  clear C1 xr hxl
  go_wp2_with (first | (with_reducible refine Sm.stop_load59 ?_) | (with_reducible refine Sm.stop_store59 ?_) | (with_reducible refine stop_load45 ?_) | (with_reducible refine stop_store45 ?_))
  (with_reducible refine ⟨?_⟩); (with_reducible refine at_any ?_ ?_); (focus go_simp); refine fun K0 hK => wp_st45 _ _ w4.heap.size 0 0 px nilP rfl rfl rfl (Bk.new rfl _ _) (fun w5 hd ho => hK _ _ ?_)
  have PX := Lib.hid ((hx.ext ((Below.refl _ _).alloc (Nat.le_refl _) _)).st (n := 0) (q := nilP) ho (Bk.new rfl _ _))
  have xs := ho.ex
  obtain ⟨g13, hg13⟩ : ∃ g, g = w4.heap.size := ⟨_, rfl⟩
  rw [← hg13] at hd ⊢
  have A9 := Lib.hid hd
  replace d0 := Lib.hid (d0.out.ext xs)
  replace a0 := Lib.hid (a0.out.ext xs)
  replace l0 := Lib.hid (l0.out.ext xs)
  replace bw := Lib.hid (Ex.trans bw.out xs)
  clear hK ho hd xs hg13 hx
  go_wp2_with (first | (with_reducible refine Sm.stop_load59 ?_) | (with_reducible refine Sm.stop_store59 ?_) | (with_reducible refine stop_load45 ?_) | (with_reducible refine stop_store45 ?_))
  (with_reducible refine ⟨?_⟩); (with_reducible refine at_any ?_ ?_); (focus go_simp); refine fun K0 hK => wp_ld45g _ (B + 1) _ _ rfl rfl a0.out (hK _ _ ?_)
  clear hK
  go_wp2_with (first | (with_reducible refine Sm.stop_load59 ?_) | (with_reducible refine Sm.stop_store59 ?_) | (with_reducible refine stop_load45 ?_) | (with_reducible refine stop_store45 ?_))
  (with_reducible refine ⟨?_⟩); (with_reducible refine at_any ?_ ?_); (focus go_simp); refine fun K0 hK => wp_ld45g _ (B + 2) _ _ rfl rfl l0.out (hK _ _ ?_)
  clear hK
  have C1 := Lib.hid (FO.out _ bw.out)
  clear FO
  go_wp2_with (first | (with_reducible refine Sm.stop_load59 ?_) | (with_reducible refine Sm.stop_store59 ?_) | (with_reducible refine stop_load45 ?_) | (with_reducible refine stop_store45 ?_))
  refine C1.out.mono ?_
  rintro e w6 ⟨rfl, xr⟩
  replace d0 := Lib.hid (d0.out.ext xr)
  replace a0 := Lib.hid (a0.out.ext xr)
  replace l0 := Lib.hid (l0.out.ext xr)
  replace bw := Lib.hid (Ex.trans bw.out xr)
  replace A9 := Lib.hid (LB.ext A9.out xr)
  replace PX := Lib.hid (Pt.In.ext PX.out xr)
  clear C1 xr
  have f0 : w6.cell? ⟨g13, 0, none⟩ = some (.int .u64 0) := Bk.cell A9.out 0
  have f1 : w6.cell? ⟨g13, 1, none⟩ = some px.V := Bk.cell A9.out 1
  unfold Pt.V at f1
  rw [HXL.out] at f1
  have f1 : w6.cell? ⟨g13, 1, none⟩ = some (.slice px.ad 0 px.cap) := f1
  go_wp2_with (first | (with_reducible refine Sm.stop_load59 ?_) | (with_reducible refine Sm.stop_store59 ?_) | (with_reducible refine stop_load45 ?_) | (with_reducible refine stop_store45 ?_))
  (with_reducible refine ⟨?_⟩); (with_reducible refine at_not ?_ ?_); (focus go_simp)
  go_wp2_with (first | (with_reducible refine Sm.stop_load59 ?_) | (with_reducible refine Sm.stop_store59 ?_) | (with_reducible refine stop_load45 ?_) | (with_reducible refine stop_store45 ?_))
  (with_reducible refine ⟨?_⟩); (with_reducible refine at_not ?_ ?_); (focus go_simp)
  go_wp2_with (first | (with_reducible refine Sm.stop_load59 ?_) | (with_reducible refine Sm.stop_store59 ?_) | (with_reducible refine stop_load45 ?_) | (with_reducible refine stop_store45 ?_))
  clear f0 f1 A9 PX a0
  (with_reducible refine ⟨?_⟩); (with_reducible refine at_any ?_ ?_); (focus go_simp); refine fun K0 hK => Sm.wp_ld _ B C rfl rfl d0.out (hK _ _ ?_)
  clear hK
  go_wp2_with (first | (with_reducible refine Sm.stop_load59 ?_) | (with_reducible refine Sm.stop_store59 ?_) | (with_reducible refine stop_load45 ?_) | (with_reducible refine stop_store45 ?_))
  (with_reducible refine ⟨?_⟩); (with_reducible refine at_any ?_ ?_); (focus go_simp); refine fun K0 hK => wp_ld45g _ (B + 2) _ _ rfl rfl l0.out (hK _ _ ?_)
  clear hK
  have MK1 := Lib.hid (MK.out _ bw.out)
  clear MK
  go_wp2_with (first | (with_reducible refine Sm.stop_load59 ?_) | (with_reducible refine Sm.stop_store59 ?_) | (with_reducible refine stop_load45 ?_) | (with_reducible refine stop_store45 ?_))
  refine MK1.out.mono ?_
  rintro e w7 ⟨rfl, xr⟩
  replace d0 := Lib.hid (d0.out.ext xr)
  replace l0 := Lib.hid (l0.out.ext xr)
  replace bw := Lib.hid (Ex.trans bw.out xr)
  clear MK1 xr
  cases hr : rightB vl pl.l
  · have hm : markR C vl pl.l = List.replicate 16 0 := by unfold markR; rw [hr]; rfl
    rw [hr] at RL
    rw [hm]
    have RL := RL
    clear hr hm MR0
    go_wp2_with (first | (with_reducible refine Sm.stop_load59 ?_) | (with_reducible refine Sm.stop_store59 ?_) | (with_reducible refine stop_load45 ?_) | (with_reducible refine stop_store45 ?_))
    (with_reducible refine ⟨?_⟩); (with_reducible refine at_any ?_ ?_); (focus go_simp); refine fun K0 hK => Sm.wp_st _ _ w7.heap.size (List.replicate 16 0) rfl rfl rfl rfl (Sm.Bk.new rfl _ _) rfl (fun w8 hd ho => hK _ _ ?_)
    have xs : Ex w7 w8 := ho.below _ (Nat.le_refl _) _ ((Below.refl _ _).alloc (Nat.le_refl _) _)
    obtain ⟨g16, hg16⟩ : ∃ g, g = w7.heap.size := ⟨_, rfl⟩
    rw [← hg16] at hd ⊢
    have D9 := Lib.hid hd
    replace d0 := Lib.hid (d0.out.ext xs)
    replace l0 := Lib.hid (l0.out.ext xs)
    replace bw := Lib.hid (Ex.trans bw.out xs)
    clear hK ho hd xs hg16
    go_wp2_with (first | (with_reducible refine Sm.stop_load59 ?_) | (with_reducible refine Sm.stop_store59 ?_) | (with_reducible refine stop_load45 ?_) | (with_reducible refine stop_store45 ?_))
    obtain ⟨T, hT⟩ : ∃ T : List (Option Value), T = [some (.int .i64 cN), some (.int .i64 cN), some (.bool true), some (.bool true), some (.bool false), some (.bool false), some (.bool true), some (.bool true), some (.bool true), some (.int .i64 30), some (.int .i64 30), some (.bool true), some (.bool true), some (.bool true), some (.bool false), some (.agg #[.int .u64 vl, ml]), some (.bool false), some (.bool true), some (.bool true), some (.bool true), some (.bool false), some (.bool true), some (.bool true), some (digV (List.replicate 16 0)), some (digV (List.replicate 16 0)), some (.bool true), some (.bool true), some (.bool true), none, some (undef), none, none, none, none, none, none, some (.bool true), some (.bool true), some (.bool true)] := ⟨_, rfl⟩
    refine wp_region_gen (JL w8 T 1000 1001 0 #[] #[]) (by kernel_rfl) (by kernel_rfl) (by kernel_rfl) (fitB_spec (by kernel_rfl)) (fun listed f h => JL.start _ listed f h) ?_ ?_
    · intro i o ho
      have hi : i < 39 := (Array.getElem?_eq_some_iff.1 ho).1
      have hi' : i = 0 ∨ i = 1 ∨ i = 2 ∨ i = 3 ∨ i = 4 ∨ i = 5 ∨ i = 6 ∨ i = 7 ∨ i = 8 ∨ i = 9 ∨ i = 10 ∨ i = 11 ∨ i = 12 ∨ i = 13 ∨ i = 14 ∨ i = 15 ∨ i = 16 ∨ i = 17 ∨ i = 18 ∨ i = 19 ∨ i = 20 ∨ i = 21 ∨ i = 22 ∨ i = 23 ∨ i = 24 ∨ i = 25 ∨ i = 26 ∨ i = 27 ∨ i = 28 ∨ i = 29 ∨ i = 30 ∨ i = 31 ∨ i = 32 ∨ i = 33 ∨ i = 34 ∨ i = 35 ∨ i = 36 ∨ i = 37 ∨ i = 38 := by omega
      clear hi
      rcases hi' with rfl | rfl | rfl | rfl | rfl | rfl | rfl | rfl | rfl | rfl | rfl | rfl | rfl | rfl | rfl | rfl | rfl | rfl | rfl | rfl | rfl | rfl | rfl | rfl | rfl | rfl | rfl | rfl | rfl | rfl | rfl | rfl | rfl | rfl | rfl | rfl | rfl | rfl | rfl
      all_goals (simp only [List.getElem?_toArray, List.getElem?_cons_zero, List.getElem?_cons_succ, Option.some.injEq] at ho; subst ho; intro listed f a w9 hJ hsz hls hun hdep hout hlat)
      · rw [if_pos (by rfl)]
        intro K hK
        have q9 := hout 9 (outB_spec (by kernel_rfl))
        refine wp_mv _ rfl (hK _ _ ?_)
        rw [show a.eval (.tmp 9) = .int .i64 cN from q9]
        exact hJ.plain (by decide) (by decide) (Ex.refl _) (fun x hx => by rw [hT] at hx; first | exact Option.some.inj hx | simpa using hx)
      · rw [if_pos (by rfl)]
        intro K hK
        have q11 := hout 11 (outB_spec (by kernel_rfl))
        refine wp_mv _ rfl (hK _ _ ?_)
        rw [show a.eval (.tmp 11) = .int .i64 cN from q11]
        exact hJ.plain (by decide) (by decide) (Ex.refl _) (fun x hx => by rw [hT] at hx; first | exact Option.some.inj hx | simpa using hx)
      · rw [if_pos (by rfl)]
        intro K hK
        have q77 := (hdep ⟨0, .data⟩ (by simp) rfl).2 _ rfl _ rfl
        rw [show f 0 = _ from hJ.vals 0 (hdep ⟨0, .data⟩ (by simp) rfl).1 (.int .i64 cN) (by rw [hT]; rfl)] at q77
        have q78 := (hdep ⟨1, .data⟩ (by simp) rfl).2 _ rfl _ rfl
        rw [show f 1 = _ from hJ.vals 1 (hdep ⟨1, .data⟩ (by simp) rfl).1 (.int .i64 cN) (by rw [hT]; rfl)] at q78
        rw [Array.getD_eq_getD_getElem?] at q77
        rw [Array.getD_eq_getD_getElem?] at q78
        clear hsz hdep hout hlat
        go_simp
        exact hK _ _ (hJ.plain (by decide) (by decide) (Ex.refl _) (fun x hx => by rw [hT] at hx; first | exact Option.some.inj hx | simpa using hx))
      · rw [if_pos (by rfl)]
        intro K hK
        have q79 := (hdep ⟨2, .data⟩ (by simp) rfl).2 _ rfl _ rfl
        rw [show f 2 = _ from hJ.vals 2 (hdep ⟨2, .data⟩ (by simp) rfl).1 (.bool true) (by rw [hT]; rfl)] at q79
        refine wp_mv _ rfl (hK _ _ ?_)
        rw [show a.eval (.tmp 79) = .bool true from q79]
        exact hJ.plain (by decide) (by decide) (Ex.refl _) (fun x hx => by rw [hT] at hx; first | exact Option.some.inj hx | simpa using hx)
      · have kg := (hdep ⟨3, .guard⟩ (by simp) rfl).2 _ rfl _ rfl
        rw [show f 3 = _ from hJ.vals 3 (hdep ⟨3, .guard⟩ (by simp) rfl).1 (.bool true) (by rw [hT]; rfl)] at kg
        rw [if_pos (wanted_of rfl rfl rfl kg)]
        intro K hK
        have q10 := hout 10 (outB_spec (by kernel_rfl))
        refine wp_mv _ rfl (hK _ _ ?_)
        rw [show a.eval (.tmp 10) = .bool false from q10]
        exact hJ.plain (by decide) (by decide) (Ex.refl _) (fun x hx => by rw [hT] at hx; first | exact Option.some.inj hx | simpa using hx)
      · have kg := (hdep ⟨3, .guard⟩ (by simp) rfl).2 _ rfl _ rfl
        rw [show f 3 = _ from hJ.vals 3 (hdep ⟨3, .guard⟩ (by simp) rfl).1 (.bool true) (by rw [hT]; rfl)] at kg
        rw [if_pos (wanted_of rfl rfl rfl kg)]
        intro K hK
        have q12 := hout 12 (outB_spec (by kernel_rfl))
        refine wp_mv _ rfl (hK _ _ ?_)
        rw [show a.eval (.tmp 12) = .bool false from q12]
        exact hJ.plain (by decide) (by decide) (Ex.refl _) (fun x hx => by rw [hT] at hx; first | exact Option.some.inj hx | simpa using hx)
      · have kg := (hdep ⟨3, .guard⟩ (by simp) rfl).2 _ rfl _ rfl
        rw [show f 3 = _ from hJ.vals 3 (hdep ⟨3, .guard⟩ (by simp) rfl).1 (.bool true) (by rw [hT]; rfl)] at kg
        rw [if_pos (wanted_of rfl rfl rfl kg)]
        intro K hK
        have q81 := (hdep ⟨4, .data⟩ (by simp) rfl).2 _ rfl _ rfl
        rw [show f 4 = _ from hJ.vals 4 (hdep ⟨4, .data⟩ (by simp) rfl).1 (.bool false) (by rw [hT]; rfl)] at q81
        have q82 := (hdep ⟨5, .data⟩ (by simp) rfl).2 _ rfl _ rfl
        rw [show f 5 = _ from hJ.vals 5 (hdep ⟨5, .data⟩ (by simp) rfl).1 (.bool false) (by rw [hT]; rfl)] at q82
        rw [Array.getD_eq_getD_getElem?] at q81
        rw [Array.getD_eq_getD_getElem?] at q82
        clear hsz hdep hout hlat
        go_simp
        exact hK _ _ (hJ.plain (by decide) (by decide) (Ex.refl _) (fun x hx => by rw [hT] at hx; first | exact Option.some.inj hx | simpa using hx))
      · rw [if_pos (by rfl)]
        intro K hK
        have q80 := (hdep ⟨3, .data⟩ (by simp) rfl).2 _ rfl _ rfl
        rw [show f 3 = _ from hJ.vals 3 (hdep ⟨3, .data⟩ (by simp) rfl).1 (.bool true) (by rw [hT]; rfl)] at q80
        have q83 := (hdep ⟨6, .data⟩ (by simp) rfl).2 _ rfl _ rfl
        rw [show f 6 = _ from hJ.vals 6 (hdep ⟨6, .data⟩ (by simp) rfl).1 (.bool true) (by rw [hT]; rfl)] at q83
        rw [Array.getD_eq_getD_getElem?] at q80
        rw [Array.getD_eq_getD_getElem?] at q83
        clear hsz hdep hout hlat
        go_simp
        exact hK _ _ (hJ.plain (by decide) (by decide) (Ex.refl _) (fun x hx => by rw [hT] at hx; first | exact Option.some.inj hx | simpa using hx))
      · rw [if_pos (by rfl)]
        intro K hK
        have q84 := (hdep ⟨7, .data⟩ (by simp) rfl).2 _ rfl _ rfl
        rw [show f 7 = _ from hJ.vals 7 (hdep ⟨7, .data⟩ (by simp) rfl).1 (.bool true) (by rw [hT]; rfl)] at q84
        refine wp_mv _ rfl (hK _ _ ?_)
        rw [show a.eval (.tmp 84) = .bool true from q84]
        exact hJ.plain (by decide) (by decide) (Ex.refl _) (fun x hx => by rw [hT] at hx; first | exact Option.some.inj hx | simpa using hx)
      · have kg := (hdep ⟨8, .guard⟩ (by simp) rfl).2 _ rfl _ rfl
        rw [show f 8 = _ from hJ.vals 8 (hdep ⟨8, .guard⟩ (by simp) rfl).1 (.bool true) (by rw [hT]; rfl)] at kg
        rw [if_pos (wanted_of rfl rfl rfl kg)]
        intro K hK
        have q14 := hout 14 (outB_spec (by kernel_rfl))
        refine wp_mv _ rfl (hK _ _ ?_)
        rw [show a.eval (.tmp 14) = .int .i64 30 from q14]
        exact hJ.plain (by decide) (by decide) (Ex.refl _) (fun x hx => by rw [hT] at hx; first | exact Option.some.inj hx | simpa using hx)
      · have kg := (hdep ⟨8, .guard⟩ (by simp) rfl).2 _ rfl _ rfl
        rw [show f 8 = _ from hJ.vals 8 (hdep ⟨8, .guard⟩ (by simp) rfl).1 (.bool true) (by rw [hT]; rfl)] at kg
        rw [if_pos (wanted_of rfl rfl rfl kg)]
        intro K hK
        have q15 := hout 15 (outB_spec (by kernel_rfl))
        refine wp_mv _ rfl (hK _ _ ?_)
        rw [show a.eval (.tmp 15) = .int .i64 30 from q15]
        exact hJ.plain (by decide) (by decide) (Ex.refl _) (fun x hx => by rw [hT] at hx; first | exact Option.some.inj hx | simpa using hx)
      · have kg := (hdep ⟨8, .guard⟩ (by simp) rfl).2 _ rfl _ rfl
        rw [show f 8 = _ from hJ.vals 8 (hdep ⟨8, .guard⟩ (by simp) rfl).1 (.bool true) (by rw [hT]; rfl)] at kg
        rw [if_pos (wanted_of rfl rfl rfl kg)]
        intro K hK
        have q86 := (hdep ⟨9, .data⟩ (by simp) rfl).2 _ rfl _ rfl
        rw [show f 9 = _ from hJ.vals 9 (hdep ⟨9, .data⟩ (by simp) rfl).1 (.int .i64 30) (by rw [hT]; rfl)] at q86
        have q87 := (hdep ⟨10, .data⟩ (by simp) rfl).2 _ rfl _ rfl
        rw [show f 10 = _ from hJ.vals 10 (hdep ⟨10, .data⟩ (by simp) rfl).1 (.int .i64 30) (by rw [hT]; rfl)] at q87
        rw [Array.getD_eq_getD_getElem?] at q86
        rw [Array.getD_eq_getD_getElem?] at q87
        clear hsz hdep hout hlat
        go_simp
        exact hK _ _ (hJ.plain (by decide) (by decide) (Ex.refl _) (fun x hx => by rw [hT] at hx; first | exact Option.some.inj hx | simpa using hx))
      · rw [if_pos (by rfl)]
        intro K hK
        have q85 := (hdep ⟨8, .data⟩ (by simp) rfl).2 _ rfl _ rfl
        rw [show f 8 = _ from hJ.vals 8 (hdep ⟨8, .data⟩ (by simp) rfl).1 (.bool true) (by rw [hT]; rfl)] at q85
        have q88 := (hdep ⟨11, .data⟩ (by simp) rfl).2 _ rfl _ rfl
        rw [show f 11 = _ from hJ.vals 11 (hdep ⟨11, .data⟩ (by simp) rfl).1 (.bool true) (by rw [hT]; rfl)] at q88
        rw [Array.getD_eq_getD_getElem?] at q85
        rw [Array.getD_eq_getD_getElem?] at q88
        clear hsz hdep hout hlat
        go_simp
        exact hK _ _ (hJ.plain (by decide) (by decide) (Ex.refl _) (fun x hx => by rw [hT] at hx; first | exact Option.some.inj hx | simpa using hx))
      · rw [if_pos (by rfl)]
        intro K hK
        have q89 := (hdep ⟨12, .data⟩ (by simp) rfl).2 _ rfl _ rfl
        rw [show f 12 = _ from hJ.vals 12 (hdep ⟨12, .data⟩ (by simp) rfl).1 (.bool true) (by rw [hT]; rfl)] at q89
        refine wp_mv _ rfl (hK _ _ ?_)
        rw [show a.eval (.tmp 89) = .bool true from q89]
        exact hJ.plain (by decide) (by decide) (Ex.refl _) (fun x hx => by rw [hT] at hx; first | exact Option.some.inj hx | simpa using hx)
      · have kg := (hdep ⟨13, .guard⟩ (by simp) rfl).2 _ rfl _ rfl
        rw [show f 13 = _ from hJ.vals 13 (hdep ⟨13, .guard⟩ (by simp) rfl).1 (.bool true) (by rw [hT]; rfl)] at kg
        rw [if_pos (wanted_of rfl rfl rfl kg)]
        intro K hK
        have q17 := hout 17 (outB_spec (by kernel_rfl))
        refine wp_mv _ rfl (hK _ _ ?_)
        rw [show a.eval (.tmp 17) = .bool false from q17]
        exact hJ.plain (by decide) (by decide) (Ex.refl _) (fun x hx => by rw [hT] at hx; first | exact Option.some.inj hx | simpa using hx)
      · have kg := (hdep ⟨13, .guard⟩ (by simp) rfl).2 _ rfl _ rfl
        rw [show f 13 = _ from hJ.vals 13 (hdep ⟨13, .guard⟩ (by simp) rfl).1 (.bool true) (by rw [hT]; rfl)] at kg
        rw [if_pos (wanted_of rfl rfl rfl kg)]
        intro K hK
        have q6 := hout 6 (outB_spec (by kernel_rfl))
        refine wp_ld45g _ (B + 2) _ _ rfl q6 (l0.out.ext hJ.ext) (hK _ _ (hJ.plain (by decide) (by decide) (Ex.refl _) (fun x hx => by rw [hT] at hx; first | exact Option.some.inj hx | simpa using hx)))
      · have kg := (hdep ⟨13, .guard⟩ (by simp) rfl).2 _ rfl _ rfl
        rw [show f 13 = _ from hJ.vals 13 (hdep ⟨13, .guard⟩ (by simp) rfl).1 (.bool true) (by rw [hT]; rfl)] at kg
        rw [if_pos (wanted_of rfl rfl rfl kg)]
        intro K hK
        have q92 := (hdep ⟨15, .data⟩ (by simp) rfl).2 _ rfl _ rfl
        rw [show f 15 = _ from hJ.vals 15 (hdep ⟨15, .data⟩ (by simp) rfl).1 (.agg #[.int .u64 vl, ml]) (by rw [hT]; rfl)] at q92
        rw [Array.getD_eq_getD_getElem?] at q92
        have cm := Lib.hid (RL.out w9 (Ex.trans bw.out hJ.ext))
        clear hsz hdep hout hlat
        go_simp
        refine cm.out.mono ?_
        rintro e w3 ⟨rfl, xq⟩
        exact hK _ _ (hJ.plain (by decide) (by decide) xq (fun x hx => by rw [hT] at hx; first | exact Option.some.inj hx | simpa using hx))
      · have kg := (hdep ⟨13, .guard⟩ (by simp) rfl).2 _ rfl _ rfl
        rw [show f 13 = _ from hJ.vals 13 (hdep ⟨13, .guard⟩ (by simp) rfl).1 (.bool true) (by rw [hT]; rfl)] at kg
        rw [if_pos (wanted_of rfl rfl rfl kg)]
        intro K hK
        have q91 := (hdep ⟨14, .data⟩ (by simp) rfl).2 _ rfl _ rfl
        rw [show f 14 = _ from hJ.vals 14 (hdep ⟨14, .data⟩ (by simp) rfl).1 (.bool false) (by rw [hT]; rfl)] at q91
        have q93 := (hdep ⟨16, .data⟩ (by simp) rfl).2 _ rfl _ rfl
        rw [show f 16 = _ from hJ.vals 16 (hdep ⟨16, .data⟩ (by simp) rfl).1 (.bool false) (by rw [hT]; rfl)] at q93
        rw [Array.getD_eq_getD_getElem?] at q91
        rw [Array.getD_eq_getD_getElem?] at q93
        clear hsz hdep hout hlat
        go_simp
        exact hK _ _ (hJ.plain (by decide) (by decide) (Ex.refl _) (fun x hx => by rw [hT] at hx; first | exact Option.some.inj hx | simpa using hx))
      · rw [if_pos (by rfl)]
        intro K hK
        have q90 := (hdep ⟨13, .data⟩ (by simp) rfl).2 _ rfl _ rfl
        rw [show f 13 = _ from hJ.vals 13 (hdep ⟨13, .data⟩ (by simp) rfl).1 (.bool true) (by rw [hT]; rfl)] at q90
        have q94 := (hdep ⟨17, .data⟩ (by simp) rfl).2 _ rfl _ rfl
        rw [show f 17 = _ from hJ.vals 17 (hdep ⟨17, .data⟩ (by simp) rfl).1 (.bool true) (by rw [hT]; rfl)] at q94
        rw [Array.getD_eq_getD_getElem?] at q90
        rw [Array.getD_eq_getD_getElem?] at q94
        clear hsz hdep hout hlat
        go_simp
        exact hK _ _ (hJ.plain (by decide) (by decide) (Ex.refl _) (fun x hx => by rw [hT] at hx; first | exact Option.some.inj hx | simpa using hx))
      · rw [if_pos (by rfl)]
        intro K hK
        have q95 := (hdep ⟨18, .data⟩ (by simp) rfl).2 _ rfl _ rfl
        rw [show f 18 = _ from hJ.vals 18 (hdep ⟨18, .data⟩ (by simp) rfl).1 (.bool true) (by rw [hT]; rfl)] at q95
        refine wp_mv _ rfl (hK _ _ ?_)
        rw [show a.eval (.tmp 95) = .bool true from q95]
        exact hJ.plain (by decide) (by decide) (Ex.refl _) (fun x hx => by rw [hT] at hx; first | exact Option.some.inj hx | simpa using hx)
      · have kg := (hdep ⟨19, .guard⟩ (by simp) rfl).2 _ rfl _ rfl
        rw [show f 19 = _ from hJ.vals 19 (hdep ⟨19, .guard⟩ (by simp) rfl).1 (.bool true) (by rw [hT]; rfl)] at kg
        rw [if_pos (wanted_of rfl rfl rfl kg)]
        intro K hK
        have q17 := hout 17 (outB_spec (by kernel_rfl))
        refine wp_mv _ rfl (hK _ _ ?_)
        rw [show a.eval (.tmp 17) = .bool false from q17]
        exact hJ.plain (by decide) (by decide) (Ex.refl _) (fun x hx => by rw [hT] at hx; first | exact Option.some.inj hx | simpa using hx)
      · have kg := (hdep ⟨19, .guard⟩ (by simp) rfl).2 _ rfl _ rfl
        rw [show f 19 = _ from hJ.vals 19 (hdep ⟨19, .guard⟩ (by simp) rfl).1 (.bool true) (by rw [hT]; rfl)] at kg
        rw [if_pos (wanted_of rfl rfl rfl kg)]
        intro K hK
        have q97 := (hdep ⟨20, .data⟩ (by simp) rfl).2 _ rfl _ rfl
        rw [show f 20 = _ from hJ.vals 20 (hdep ⟨20, .data⟩ (by simp) rfl).1 (.bool false) (by rw [hT]; rfl)] at q97
        rw [Array.getD_eq_getD_getElem?] at q97
        clear hsz hdep hout hlat
        go_simp
        exact hK _ _ (hJ.plain (by decide) (by decide) (Ex.refl _) (fun x hx => by rw [hT] at hx; first | exact Option.some.inj hx | simpa using hx))
      · have kg := (hdep ⟨19, .guard⟩ (by simp) rfl).2 _ rfl _ rfl
        rw [show f 19 = _ from hJ.vals 19 (hdep ⟨19, .guard⟩ (by simp) rfl).1 (.bool true) (by rw [hT]; rfl)] at kg
        rw [if_pos (wanted_of rfl rfl rfl kg)]
        intro K hK
        have q98 := (hdep ⟨21, .data⟩ (by simp) rfl).2 _ rfl _ rfl
        rw [show f 21 = _ from hJ.vals 21 (hdep ⟨21, .data⟩ (by simp) rfl).1 (.bool true) (by rw [hT]; rfl)] at q98
        refine wp_mv _ rfl (hK _ _ ?_)
        rw [show a.eval (.tmp 98) = .bool true from q98]
        exact hJ.plain (by decide) (by decide) (Ex.refl _) (fun x hx => by rw [hT] at hx; first | exact Option.some.inj hx | simpa using hx)
      · have kg := (hdep ⟨22, .guard⟩ (by simp) rfl).2 _ rfl _ rfl
        rw [show f 22 = _ from hJ.vals 22 (hdep ⟨22, .guard⟩ (by simp) rfl).1 (.bool true) (by rw [hT]; rfl)] at kg
        rw [if_pos (wanted_of rfl rfl rfl kg)]
        intro K hK
        have q16 := hout 16 (outB_spec (by kernel_rfl))
        exact Sm.wp_ld _ g16 (List.replicate 16 0) rfl q16 (DB.ext D9.out hJ.ext) (hK _ _ (hJ.plain (by decide) (by decide) (Ex.refl _) (fun x hx => by rw [hT] at hx; first | exact Option.some.inj hx | simpa using hx)))
      · have kg := (hdep ⟨22, .guard⟩ (by simp) rfl).2 _ rfl _ rfl
        rw [show f 22 = _ from hJ.vals 22 (hdep ⟨22, .guard⟩ (by simp) rfl).1 (.bool true) (by rw [hT]; rfl)] at kg
        rw [if_pos (wanted_of rfl rfl rfl kg)]
        intro K hK
        clear hsz hdep hout hlat
        go_simp
        exact hK _ _ (hJ.plain (by decide) (by decide) (Ex.refl _) (fun x hx => by rw [hT] at hx; have := Option.some.inj hx; rw [← this]; rfl))
      · have kg := (hdep ⟨22, .guard⟩ (by simp) rfl).2 _ rfl _ rfl
        rw [show f 22 = _ from hJ.vals 22 (hdep ⟨22, .guard⟩ (by simp) rfl).1 (.bool true) (by rw [hT]; rfl)] at kg
        rw [if_pos (wanted_of rfl rfl rfl kg)]
        intro K hK
        have q100 := (hdep ⟨23, .data⟩ (by simp) rfl).2 _ rfl _ rfl
        rw [show f 23 = _ from hJ.vals 23 (hdep ⟨23, .data⟩ (by simp) rfl).1 (digV (List.replicate 16 0)) (by rw [hT]; rfl)] at q100
        have q101 := (hdep ⟨24, .data⟩ (by simp) rfl).2 _ rfl _ rfl
        rw [show f 24 = _ from hJ.vals 24 (hdep ⟨24, .data⟩ (by simp) rfl).1 (digV (List.replicate 16 0)) (by rw [hT]; rfl)] at q101
        refine Sm.wp_eql_dig _ _ _ rfl (List.replicate 16 0) (List.replicate 16 0) rfl rfl q100 q101 ?_
        rw [decide_eq_true rfl]
        exact hK _ _ (hJ.plain (by decide) (by decide) (Ex.refl _) (fun x hx => by rw [hT] at hx; first | exact Option.some.inj hx | simpa using hx))
      · have kg := (hdep ⟨19, .guard⟩ (by simp) rfl).2 _ rfl _ rfl
        rw [show f 19 = _ from hJ.vals 19 (hdep ⟨19, .guard⟩ (by simp) rfl).1 (.bool true) (by rw [hT]; rfl)] at kg
        rw [if_pos (wanted_of rfl rfl rfl kg)]
        intro K hK
        have q99 := (hdep ⟨22, .data⟩ (by simp) rfl).2 _ rfl _ rfl
        rw [show f 22 = _ from hJ.vals 22 (hdep ⟨22, .data⟩ (by simp) rfl).1 (.bool true) (by rw [hT]; rfl)] at q99
        have q102 := (hdep ⟨25, .data⟩ (by simp) rfl).2 _ rfl _ rfl
        rw [show f 25 = _ from hJ.vals 25 (hdep ⟨25, .data⟩ (by simp) rfl).1 (.bool true) (by rw [hT]; rfl)] at q102
        rw [Array.getD_eq_getD_getElem?] at q99
        rw [Array.getD_eq_getD_getElem?] at q102
        clear hsz hdep hout hlat
        go_simp
        exact hK _ _ (hJ.plain (by decide) (by decide) (Ex.refl _) (fun x hx => by rw [hT] at hx; first | exact Option.some.inj hx | simpa using hx))
      · have kg := (hdep ⟨19, .guard⟩ (by simp) rfl).2 _ rfl _ rfl
        rw [show f 19 = _ from hJ.vals 19 (hdep ⟨19, .guard⟩ (by simp) rfl).1 (.bool true) (by rw [hT]; rfl)] at kg
        rw [if_pos (wanted_of rfl rfl rfl kg)]
        intro K hK
        have q103 := (hdep ⟨26, .data⟩ (by simp) rfl).2 _ rfl _ rfl
        rw [show f 26 = _ from hJ.vals 26 (hdep ⟨26, .data⟩ (by simp) rfl).1 (.bool true) (by rw [hT]; rfl)] at q103
        refine wp_mv _ rfl (hK _ _ ?_)
        rw [show a.eval (.tmp 103) = .bool true from q103]
        exact hJ.plain (by decide) (by decide) (Ex.refl _) (fun x hx => by rw [hT] at hx; first | exact Option.some.inj hx | simpa using hx)
      · have kg := (hdep ⟨27, .guard⟩ (by simp) rfl).2 _ rfl _ rfl
        rw [show f 27 = _ from hJ.vals 27 (hdep ⟨27, .guard⟩ (by simp) rfl).1 (.bool true) (by rw [hT]; rfl)] at kg
        rw [if_neg (not_wanted rfl rfl rfl kg (by decide))]
        exact hJ.plain (by decide) (by decide) (Ex.refl _) (fun x hx => by rw [hT] at hx; change none = some x at hx; cases hx)
      · have kg := (hdep ⟨27, .guard⟩ (by simp) rfl).2 _ rfl _ rfl
        rw [show f 27 = _ from hJ.vals 27 (hdep ⟨27, .guard⟩ (by simp) rfl).1 (.bool true) (by rw [hT]; rfl)] at kg
        rw [if_neg (not_wanted rfl rfl rfl kg (by decide))]
        exact hJ.plain (by decide) (by decide) (Ex.refl _) (fun x hx => by rw [hT] at hx; first | exact Option.some.inj hx | simpa using hx)
      · have kg := (hdep ⟨29, .guard⟩ (by simp) rfl).2 _ rfl _ rfl
        rw [show f 29 = _ from hJ.vals 29 (hdep ⟨29, .guard⟩ (by simp) rfl).1 (undef) (by rw [hT]; rfl)] at kg
        rw [if_neg (not_wanted_x rfl rfl rfl kg (by simp [undef]))]
        exact hJ.plain (by decide) (by decide) (Ex.refl _) (fun x hx => by rw [hT] at hx; change none = some x at hx; cases hx)
      · have kg := (hdep ⟨29, .guard⟩ (by simp) rfl).2 _ rfl _ rfl
        rw [show f 29 = _ from hJ.vals 29 (hdep ⟨29, .guard⟩ (by simp) rfl).1 (undef) (by rw [hT]; rfl)] at kg
        rw [if_neg (not_wanted_x rfl rfl rfl kg (by simp [undef]))]
        exact hJ.plain (by decide) (by decide) (Ex.refl _) (fun x hx => by rw [hT] at hx; change none = some x at hx; cases hx)
      · have kg := (hdep ⟨29, .guard⟩ (by simp) rfl).2 _ rfl _ rfl
        rw [show f 29 = _ from hJ.vals 29 (hdep ⟨29, .guard⟩ (by simp) rfl).1 (undef) (by rw [hT]; rfl)] at kg
        rw [if_neg (not_wanted_x rfl rfl rfl kg (by simp [undef]))]
        exact hJ.plain (by decide) (by decide) (Ex.refl _) (fun x hx => by rw [hT] at hx; change none = some x at hx; cases hx)
      · have kg := (hdep ⟨29, .guard⟩ (by simp) rfl).2 _ rfl _ rfl
        rw [show f 29 = _ from hJ.vals 29 (hdep ⟨29, .guard⟩ (by simp) rfl).1 (undef) (by rw [hT]; rfl)] at kg
        rw [if_neg (not_wanted_x rfl rfl rfl kg (by simp [undef]))]
        exact hJ.plain (by decide) (by decide) (Ex.refl _) (fun x hx => by rw [hT] at hx; change none = some x at hx; cases hx)
      · have kg := (hdep ⟨29, .guard⟩ (by simp) rfl).2 _ rfl _ rfl
        rw [show f 29 = _ from hJ.vals 29 (hdep ⟨29, .guard⟩ (by simp) rfl).1 (undef) (by rw [hT]; rfl)] at kg
        rw [if_neg (not_wanted_x rfl rfl rfl kg (by simp [undef]))]
        exact hJ.plain (by decide) (by decide) (Ex.refl _) (fun x hx => by rw [hT] at hx; change none = some x at hx; cases hx)
      · have kg := (hdep ⟨27, .guard⟩ (by simp) rfl).2 _ rfl _ rfl
        rw [show f 27 = _ from hJ.vals 27 (hdep ⟨27, .guard⟩ (by simp) rfl).1 (.bool true) (by rw [hT]; rfl)] at kg
        rw [if_neg (not_wanted rfl rfl rfl kg (by decide))]
        exact hJ.plain (by decide) (by decide) (Ex.refl _) (fun x hx => by rw [hT] at hx; change none = some x at hx; cases hx)
      · have kg := (hdep ⟨19, .guard⟩ (by simp) rfl).2 _ rfl _ rfl
        rw [show f 19 = _ from hJ.vals 19 (hdep ⟨19, .guard⟩ (by simp) rfl).1 (.bool true) (by rw [hT]; rfl)] at kg
        rw [if_pos (wanted_of rfl rfl rfl kg)]
        intro K hK
        have q104 := (hdep ⟨27, .data⟩ (by simp) rfl).2 _ rfl _ rfl
        rw [show f 27 = _ from hJ.vals 27 (hdep ⟨27, .data⟩ (by simp) rfl).1 (.bool true) (by rw [hT]; rfl)] at q104
        have q112 := (hdep ⟨35, .data⟩ (by simp) rfl).2 _ rfl _ rfl
        rw [Array.getD_eq_getD_getElem?] at q104
        rw [Array.getD_eq_getD_getElem?] at q112
        clear hsz hdep hout hlat
        go_simp
        exact hK _ _ (hJ.plain (by decide) (by decide) (Ex.refl _) (fun x hx => by rw [hT] at hx; first | exact Option.some.inj hx | simpa using hx))
      · rw [if_pos (by rfl)]
        intro K hK
        have q96 := (hdep ⟨19, .data⟩ (by simp) rfl).2 _ rfl _ rfl
        rw [show f 19 = _ from hJ.vals 19 (hdep ⟨19, .data⟩ (by simp) rfl).1 (.bool true) (by rw [hT]; rfl)] at q96
        have q113 := (hdep ⟨36, .data⟩ (by simp) rfl).2 _ rfl _ rfl
        rw [show f 36 = _ from hJ.vals 36 (hdep ⟨36, .data⟩ (by simp) rfl).1 (.bool true) (by rw [hT]; rfl)] at q113
        rw [Array.getD_eq_getD_getElem?] at q96
        rw [Array.getD_eq_getD_getElem?] at q113
        clear hsz hdep hout hlat
        go_simp
        exact hK _ _ (hJ.plain (by decide) (by decide) (Ex.refl _) (fun x hx => by rw [hT] at hx; first | exact Option.some.inj hx | simpa using hx))
      · rw [if_pos (by rfl)]
        intro K hK
        have q114 := (hdep ⟨37, .data⟩ (by simp) rfl).2 _ rfl _ rfl
        rw [show f 37 = _ from hJ.vals 37 (hdep ⟨37, .data⟩ (by simp) rfl).1 (.bool true) (by rw [hT]; rfl)] at q114
        rw [Array.getD_eq_getD_getElem?] at q114
        clear hsz hdep hout hlat
        go_simp
        exact hK _ _ (hJ.plain (by decide) (by decide) (Ex.refl _) (fun x hx => by rw [hT] at hx; first | exact Option.some.inj hx | simpa using hx))
    · intro listed f w9 hall hJ
      have f0 : f 0 = .int .i64 cN := hJ.vals 0 (hall 0 (by simp)) _ (by rw [hT]; rfl)
      have f1 : f 1 = .int .i64 cN := hJ.vals 1 (hall 1 (by simp)) _ (by rw [hT]; rfl)
      have f2 : f 2 = .bool true := hJ.vals 2 (hall 2 (by simp)) _ (by rw [hT]; rfl)
      have f3 : f 3 = .bool true := hJ.vals 3 (hall 3 (by simp)) _ (by rw [hT]; rfl)
      have f4 : f 4 = .bool false := hJ.vals 4 (hall 4 (by simp)) _ (by rw [hT]; rfl)
      have f5 : f 5 = .bool false := hJ.vals 5 (hall 5 (by simp)) _ (by rw [hT]; rfl)
      have f6 : f 6 = .bool true := hJ.vals 6 (hall 6 (by simp)) _ (by rw [hT]; rfl)
      have f7 : f 7 = .bool true := hJ.vals 7 (hall 7 (by simp)) _ (by rw [hT]; rfl)
      have f8 : f 8 = .bool true := hJ.vals 8 (hall 8 (by simp)) _ (by rw [hT]; rfl)
      have f9 : f 9 = .int .i64 30 := hJ.vals 9 (hall 9 (by simp)) _ (by rw [hT]; rfl)
      have f10 : f 10 = .int .i64 30 := hJ.vals 10 (hall 10 (by simp)) _ (by rw [hT]; rfl)
      have f11 : f 11 = .bool true := hJ.vals 11 (hall 11 (by simp)) _ (by rw [hT]; rfl)
      have f12 : f 12 = .bool true := hJ.vals 12 (hall 12 (by simp)) _ (by rw [hT]; rfl)
      have f13 : f 13 = .bool true := hJ.vals 13 (hall 13 (by simp)) _ (by rw [hT]; rfl)
      have f14 : f 14 = .bool false := hJ.vals 14 (hall 14 (by simp)) _ (by rw [hT]; rfl)
      have f15 : f 15 = .agg #[.int .u64 vl, ml] := hJ.vals 15 (hall 15 (by simp)) _ (by rw [hT]; rfl)
      have f16 : f 16 = .bool false := hJ.vals 16 (hall 16 (by simp)) _ (by rw [hT]; rfl)
      have f17 : f 17 = .bool true := hJ.vals 17 (hall 17 (by simp)) _ (by rw [hT]; rfl)
      have f18 : f 18 = .bool true := hJ.vals 18 (hall 18 (by simp)) _ (by rw [hT]; rfl)
      have f19 : f 19 = .bool true := hJ.vals 19 (hall 19 (by simp)) _ (by rw [hT]; rfl)
      have f20 : f 20 = .bool false := hJ.vals 20 (hall 20 (by simp)) _ (by rw [hT]; rfl)
      have f21 : f 21 = .bool true := hJ.vals 21 (hall 21 (by simp)) _ (by rw [hT]; rfl)
      have f22 : f 22 = .bool true := hJ.vals 22 (hall 22 (by simp)) _ (by rw [hT]; rfl)
      have f23 : f 23 = digV (List.replicate 16 0) := hJ.vals 23 (hall 23 (by simp)) _ (by rw [hT]; rfl)
      have f24 : f 24 = digV (List.replicate 16 0) := hJ.vals 24 (hall 24 (by simp)) _ (by rw [hT]; rfl)
      have f25 : f 25 = .bool true := hJ.vals 25 (hall 25 (by simp)) _ (by rw [hT]; rfl)
      have f26 : f 26 = .bool true := hJ.vals 26 (hall 26 (by simp)) _ (by rw [hT]; rfl)
      have f27 : f 27 = .bool true := hJ.vals 27 (hall 27 (by simp)) _ (by rw [hT]; rfl)
      have f29 : f 29 = undef := hJ.vals 29 (hall 29 (by simp)) _ (by rw [hT]; rfl)
      have f36 : f 36 = .bool true := hJ.vals 36 (hall 36 (by simp)) _ (by rw [hT]; rfl)
      have f37 : f 37 = .bool true := hJ.vals 37 (hall 37 (by simp)) _ (by rw [hT]; rfl)
      have f38 : f 38 = .bool true := hJ.vals 38 (hall 38 (by simp)) _ (by rw [hT]; rfl)
      have xw := hJ.ext
      simp only [putAll, Act.put, List.setIfInBounds_toArray, List.set_cons_zero, List.set_cons_succ, Nat.zero_add, Nat.reduceAdd]
      rw [f0, f1, f2, f3, f4, f5, f6, f7, f8, f9, f10, f11, f12, f13, f14, f15, f16, f17, f18, f19, f20, f21, f22, f23, f24, f25, f26, f27, f29, f36, f37, f38]
      clear f0 f1 f2 f3 f4 f5 f6 f7 f8 f9 f10 f11 f12 f13 f14 f15 f16 f17 f18 f19 f20 f21 f22 f23 f24 f25 f26 f27 f29 f36 f37 f38 hJ hall hT
      generalize f 28 = y28
      generalize f 30 = y30
      generalize f 31 = y31
      generalize f 32 = y32
      generalize f 33 = y33
      generalize f 34 = y34
      generalize f 35 = y35
      replace bw := Lib.hid (Ex.trans bw.out xw)
      clear xw
      go_wp2_with (first | (with_reducible refine Sm.stop_load59 ?_) | (with_reducible refine Sm.stop_store59 ?_) | (with_reducible refine stop_load45 ?_) | (with_reducible refine stop_store45 ?_))
      go_ret
      exact ⟨rfl, bw.out⟩
  · have hm : markR C vl pl.l = markL C vl pl.l := by unfold markR; rw [hr]; rfl
    rw [hr] at RL
    rw [hm]
    have RL := RL
    have MR := Lib.hid (MR0.out hr)
    clear hr hm MR0
    go_wp2_with (first | (with_reducible refine Sm.stop_load59 ?_) | (with_reducible refine Sm.stop_store59 ?_) | (with_reducible refine stop_load45 ?_) | (with_reducible refine stop_store45 ?_))
    (with_reducible refine ⟨?_⟩); (with_reducible refine at_any ?_ ?_); (focus go_simp); refine fun K0 hK => Sm.wp_st _ _ w7.heap.size (markL C vl pl.l) rfl rfl rfl rfl (Sm.Bk.new rfl _ _) rfl (fun w8 hd ho => hK _ _ ?_)
    have xs : Ex w7 w8 := ho.below _ (Nat.le_refl _) _ ((Below.refl _ _).alloc (Nat.le_refl _) _)
    obtain ⟨g16, hg16⟩ : ∃ g, g = w7.heap.size := ⟨_, rfl⟩
    rw [← hg16] at hd ⊢
    have D9 := Lib.hid hd
    replace d0 := Lib.hid (d0.out.ext xs)
    replace l0 := Lib.hid (l0.out.ext xs)
    replace bw := Lib.hid (Ex.trans bw.out xs)
    clear hK ho hd xs hg16
    go_wp2_with (first | (with_reducible refine Sm.stop_load59 ?_) | (with_reducible refine Sm.stop_store59 ?_) | (with_reducible refine stop_load45 ?_) | (with_reducible refine stop_store45 ?_))
    obtain ⟨T, hT⟩ : ∃ T : List (Option Value), T = [some (.int .i64 cN), some (.int .i64 cN), some (.bool true), some (.bool true), some (.bool false), some (.bool false), some (.bool true), some (.bool true), some (.bool true), some (.int .i64 30), some (.int .i64 30), some (.bool true), some (.bool true), some (.bool true), some (.bool true), some (.agg #[.int .u64 vl, ml]), some (.bool true), some (.bool true), some (.bool true), some (.bool true), some (.bool true), some (.bool false), some (.bool false), none, none, none, some (.bool false), some (.bool false), some (.bool true), some (.bool true), some (digV (markL C vl pl.l)), some (digV C), some (.agg #[.int .u64 vl, ml]), some (digV (markL C vl pl.l)), some (.bool true), some (.bool true), some (.bool true), some (.bool true), some (.bool true)] := ⟨_, rfl⟩
    refine wp_region_gen (JL w8 T 1000 1001 0 #[] #[]) (by kernel_rfl) (by kernel_rfl) (by kernel_rfl) (fitB_spec (by kernel_rfl)) (fun listed f h => JL.start _ listed f h) ?_ ?_
    · intro i o ho
      have hi : i < 39 := (Array.getElem?_eq_some_iff.1 ho).1
      have hi' : i = 0 ∨ i = 1 ∨ i = 2 ∨ i = 3 ∨ i = 4 ∨ i = 5 ∨ i = 6 ∨ i = 7 ∨ i = 8 ∨ i = 9 ∨ i = 10 ∨ i = 11 ∨ i = 12 ∨ i = 13 ∨ i = 14 ∨ i = 15 ∨ i = 16 ∨ i = 17 ∨ i = 18 ∨ i = 19 ∨ i = 20 ∨ i = 21 ∨ i = 22 ∨ i = 23 ∨ i = 24 ∨ i = 25 ∨ i = 26 ∨ i = 27 ∨ i = 28 ∨ i = 29 ∨ i = 30 ∨ i = 31 ∨ i = 32 ∨ i = 33 ∨ i = 34 ∨ i = 35 ∨ i = 36 ∨ i = 37 ∨ i = 38 := by omega
      clear hi
      rcases hi' with rfl | rfl | rfl | rfl | rfl | rfl | rfl | rfl | rfl | rfl | rfl | rfl | rfl | rfl | rfl | rfl | rfl | rfl | rfl | rfl | rfl | rfl | rfl | rfl | rfl | rfl | rfl | rfl | rfl | rfl | rfl | rfl | rfl | rfl | rfl | rfl | rfl | rfl | rfl
      all_goals (simp only [List.getElem?_toArray, List.getElem?_cons_zero, List.getElem?_cons_succ, Option.some.injEq] at ho; subst ho; intro listed f a w9 hJ hsz hls hun hdep hout hlat)
      · rw [if_pos (by rfl)]
        intro K hK
        have q9 := hout 9 (outB_spec (by kernel_rfl))
        refine wp_mv _ rfl (hK _ _ ?_)
        rw [show a.eval (.tmp 9) = .int .i64 cN from q9]
        exact hJ.plain (by decide) (by decide) (Ex.refl _) (fun x hx => by rw [hT] at hx; first | exact Option.some.inj hx | simpa using hx)
      · rw [if_pos (by rfl)]
        intro K hK
        have q11 := hout 11 (outB_spec (by kernel_rfl))
        refine wp_mv _ rfl (hK _ _ ?_)
        rw [show a.eval (.tmp 11) = .int .i64 cN from q11]
        exact hJ.plain (by decide) (by decide) (Ex.refl _) (fun x hx => by rw [hT] at hx; first | exact Option.some.inj hx | simpa using hx)
      · rw [if_pos (by rfl)]
        intro K hK
        have q77 := (hdep ⟨0, .data⟩ (by simp) rfl).2 _ rfl _ rfl
        rw [show f 0 = _ from hJ.vals 0 (hdep ⟨0, .data⟩ (by simp) rfl).1 (.int .i64 cN) (by rw [hT]; rfl)] at q77
        have q78 := (hdep ⟨1, .data⟩ (by simp) rfl).2 _ rfl _ rfl
        rw [show f 1 = _ from hJ.vals 1 (hdep ⟨1, .data⟩ (by simp) rfl).1 (.int .i64 cN) (by rw [hT]; rfl)] at q78
        rw [Array.getD_eq_getD_getElem?] at q77
        rw [Array.getD_eq_getD_getElem?] at q78
        clear hsz hdep hout hlat
        go_simp
        exact hK _ _ (hJ.plain (by decide) (by decide) (Ex.refl _) (fun x hx => by rw [hT] at hx; first | exact Option.some.inj hx | simpa using hx))
      · rw [if_pos (by rfl)]
        intro K hK
        have q79 := (hdep ⟨2, .data⟩ (by simp) rfl).2 _ rfl _ rfl
        rw [show f 2 = _ from hJ.vals 2 (hdep ⟨2, .data⟩ (by simp) rfl).1 (.bool true) (by rw [hT]; rfl)] at q79
        refine wp_mv _ rfl (hK _ _ ?_)
        rw [show a.eval (.tmp 79) = .bool true from q79]
        exact hJ.plain (by decide) (by decide) (Ex.refl _) (fun x hx => by rw [hT] at hx; first | exact Option.some.inj hx | simpa using hx)
      · have kg := (hdep ⟨3, .guard⟩ (by simp) rfl).2 _ rfl _ rfl
        rw [show f 3 = _ from hJ.vals 3 (hdep ⟨3, .guard⟩ (by simp) rfl).1 (.bool true) (by rw [hT]; rfl)] at kg
        rw [if_pos (wanted_of rfl rfl rfl kg)]
        intro K hK
        have q10 := hout 10 (outB_spec (by kernel_rfl))
        refine wp_mv _ rfl (hK _ _ ?_)
        rw [show a.eval (.tmp 10) = .bool false from q10]
        exact hJ.plain (by decide) (by decide) (Ex.refl _) (fun x hx => by rw [hT] at hx; first | exact Option.some.inj hx | simpa using hx)
      · have kg := (hdep ⟨3, .guard⟩ (by simp) rfl).2 _ rfl _ rfl
        rw [show f 3 = _ from hJ.vals 3 (hdep ⟨3, .guard⟩ (by simp) rfl).1 (.bool true) (by rw [hT]; rfl)] at kg
        rw [if_pos (wanted_of rfl rfl rfl kg)]
        intro K hK
        have q12 := hout 12 (outB_spec (by kernel_rfl))
        refine wp_mv _ rfl (hK _ _ ?_)
        rw [show a.eval (.tmp 12) = .bool false from q12]
        exact hJ.plain (by decide) (by decide) (Ex.refl _) (fun x hx => by rw [hT] at hx; first | exact Option.some.inj hx | simpa using hx)
      · have kg := (hdep ⟨3, .guard⟩ (by simp) rfl).2 _ rfl _ rfl
        rw [show f 3 = _ from hJ.vals 3 (hdep ⟨3, .guard⟩ (by simp) rfl).1 (.bool true) (by rw [hT]; rfl)] at kg
        rw [if_pos (wanted_of rfl rfl rfl kg)]
        intro K hK
        have q81 := (hdep ⟨4, .data⟩ (by simp) rfl).2 _ rfl _ rfl
        rw [show f 4 = _ from hJ.vals 4 (hdep ⟨4, .data⟩ (by simp) rfl).1 (.bool false) (by rw [hT]; rfl)] at q81
        have q82 := (hdep ⟨5, .data⟩ (by simp) rfl).2 _ rfl _ rfl
        rw [show f 5 = _ from hJ.vals 5 (hdep ⟨5, .data⟩ (by simp) rfl).1 (.bool false) (by rw [hT]; rfl)] at q82
        rw [Array.getD_eq_getD_getElem?] at q81
        rw [Array.getD_eq_getD_getElem?] at q82
        clear hsz hdep hout hlat
        go_simp
        exact hK _ _ (hJ.plain (by decide) (by decide) (Ex.refl _) (fun x hx => by rw [hT] at hx; first | exact Option.some.inj hx | simpa using hx))
      · rw [if_pos (by rfl)]
        intro K hK
        have q80 := (hdep ⟨3, .data⟩ (by simp) rfl).2 _ rfl _ rfl
        rw [show f 3 = _ from hJ.vals 3 (hdep ⟨3, .data⟩ (by simp) rfl).1 (.bool true) (by rw [hT]; rfl)] at q80
        have q83 := (hdep ⟨6, .data⟩ (by simp) rfl).2 _ rfl _ rfl
        rw [show f 6 = _ from hJ.vals 6 (hdep ⟨6, .data⟩ (by simp) rfl).1 (.bool true) (by rw [hT]; rfl)] at q83
        rw [Array.getD_eq_getD_getElem?] at q80
        rw [Array.getD_eq_getD_getElem?] at q83
        clear hsz hdep hout hlat
        go_simp
        exact hK _ _ (hJ.plain (by decide) (by decide) (Ex.refl _) (fun x hx => by rw [hT] at hx; first | exact Option.some.inj hx | simpa using hx))
      · rw [if_pos (by rfl)]
        intro K hK
        have q84 := (hdep ⟨7, .data⟩ (by simp) rfl).2 _ rfl _ rfl
        rw [show f 7 = _ from hJ.vals 7 (hdep ⟨7, .data⟩ (by simp) rfl).1 (.bool true) (by rw [hT]; rfl)] at q84
        refine wp_mv _ rfl (hK _ _ ?_)
        rw [show a.eval (.tmp 84) = .bool true from q84]
        exact hJ.plain (by decide) (by decide) (Ex.refl _) (fun x hx => by rw [hT] at hx; first | exact Option.some.inj hx | simpa using hx)
      · have kg := (hdep ⟨8, .guard⟩ (by simp) rfl).2 _ rfl _ rfl
        rw [show f 8 = _ from hJ.vals 8 (hdep ⟨8, .guard⟩ (by simp) rfl).1 (.bool true) (by rw [hT]; rfl)] at kg
        rw [if_pos (wanted_of rfl rfl rfl kg)]
        intro K hK
        have q14 := hout 14 (outB_spec (by kernel_rfl))
        refine wp_mv _ rfl (hK _ _ ?_)
        rw [show a.eval (.tmp 14) = .int .i64 30 from q14]
        exact hJ.plain (by decide) (by decide) (Ex.refl _) (fun x hx => by rw [hT] at hx; first | exact Option.some.inj hx | simpa using hx)
      · have kg := (hdep ⟨8, .guard⟩ (by simp) rfl).2 _ rfl _ rfl
        rw [show f 8 = _ from hJ.vals 8 (hdep ⟨8, .guard⟩ (by simp) rfl).1 (.bool true) (by rw [hT]; rfl)] at kg
        rw [if_pos (wanted_of rfl rfl rfl kg)]
        intro K hK
        have q15 := hout 15 (outB_spec (by kernel_rfl))
        refine wp_mv _ rfl (hK _ _ ?_)
        rw [show a.eval (.tmp 15) = .int .i64 30 from q15]
        exact hJ.plain (by decide) (by decide) (Ex.refl _) (fun x hx => by rw [hT] at hx; first | exact Option.some.inj hx | simpa using hx)
      · have kg := (hdep ⟨8, .guard⟩ (by simp) rfl).2 _ rfl _ rfl
        rw [show f 8 = _ from hJ.vals 8 (hdep ⟨8, .guard⟩ (by simp) rfl).1 (.bool true) (by rw [hT]; rfl)] at kg
        rw [if_pos (wanted_of rfl rfl rfl kg)]
        intro K hK
        have q86 := (hdep ⟨9, .data⟩ (by simp) rfl).2 _ rfl _ rfl
        rw [show f 9 = _ from hJ.vals 9 (hdep ⟨9, .data⟩ (by simp) rfl).1 (.int .i64 30) (by rw [hT]; rfl)] at q86
        have q87 := (hdep ⟨10, .data⟩ (by simp) rfl).2 _ rfl _ rfl
        rw [show f 10 = _ from hJ.vals 10 (hdep ⟨10, .data⟩ (by simp) rfl).1 (.int .i64 30) (by rw [hT]; rfl)] at q87
        rw [Array.getD_eq_getD_getElem?] at q86
        rw [Array.getD_eq_getD_getElem?] at q87
        clear hsz hdep hout hlat
        go_simp
        exact hK _ _ (hJ.plain (by decide) (by decide) (Ex.refl _) (fun x hx => by rw [hT] at hx; first | exact Option.some.inj hx | simpa using hx))
      · rw [if_pos (by rfl)]
        intro K hK
        have q85 := (hdep ⟨8, .data⟩ (by simp) rfl).2 _ rfl _ rfl
        rw [show f 8 = _ from hJ.vals 8 (hdep ⟨8, .data⟩ (by simp) rfl).1 (.bool true) (by rw [hT]; rfl)] at q85
        have q88 := (hdep ⟨11, .data⟩ (by simp) rfl).2 _ rfl _ rfl
        rw [show f 11 = _ from hJ.vals 11 (hdep ⟨11, .data⟩ (by simp) rfl).1 (.bool true) (by rw [hT]; rfl)] at q88
        rw [Array.getD_eq_getD_getElem?] at q85
        rw [Array.getD_eq_getD_getElem?] at q88
        clear hsz hdep hout hlat
        go_simp
        exact hK _ _ (hJ.plain (by decide) (by decide) (Ex.refl _) (fun x hx => by rw [hT] at hx; first | exact Option.some.inj hx | simpa using hx))
      · rw [if_pos (by rfl)]
        intro K hK
        have q89 := (hdep ⟨12, .data⟩ (by simp) rfl).2 _ rfl _ rfl
        rw [show f 12 = _ from hJ.vals 12 (hdep ⟨12, .data⟩ (by simp) rfl).1 (.bool true) (by rw [hT]; rfl)] at q89
        refine wp_mv _ rfl (hK _ _ ?_)
        rw [show a.eval (.tmp 89) = .bool true from q89]
        exact hJ.plain (by decide) (by decide) (Ex.refl _) (fun x hx => by rw [hT] at hx; first | exact Option.some.inj hx | simpa using hx)
      · have kg := (hdep ⟨13, .guard⟩ (by simp) rfl).2 _ rfl _ rfl
        rw [show f 13 = _ from hJ.vals 13 (hdep ⟨13, .guard⟩ (by simp) rfl).1 (.bool true) (by rw [hT]; rfl)] at kg
        rw [if_pos (wanted_of rfl rfl rfl kg)]
        intro K hK
        have q17 := hout 17 (outB_spec (by kernel_rfl))
        refine wp_mv _ rfl (hK _ _ ?_)
        rw [show a.eval (.tmp 17) = .bool true from q17]
        exact hJ.plain (by decide) (by decide) (Ex.refl _) (fun x hx => by rw [hT] at hx; first | exact Option.some.inj hx | simpa using hx)
      · have kg := (hdep ⟨13, .guard⟩ (by simp) rfl).2 _ rfl _ rfl
        rw [show f 13 = _ from hJ.vals 13 (hdep ⟨13, .guard⟩ (by simp) rfl).1 (.bool true) (by rw [hT]; rfl)] at kg
        rw [if_pos (wanted_of rfl rfl rfl kg)]
        intro K hK
        have q6 := hout 6 (outB_spec (by kernel_rfl))
        refine wp_ld45g _ (B + 2) _ _ rfl q6 (l0.out.ext hJ.ext) (hK _ _ (hJ.plain (by decide) (by decide) (Ex.refl _) (fun x hx => by rw [hT] at hx; first | exact Option.some.inj hx | simpa using hx)))
      · have kg := (hdep ⟨13, .guard⟩ (by simp) rfl).2 _ rfl _ rfl
        rw [show f 13 = _ from hJ.vals 13 (hdep ⟨13, .guard⟩ (by simp) rfl).1 (.bool true) (by rw [hT]; rfl)] at kg
        rw [if_pos (wanted_of rfl rfl rfl kg)]
        intro K hK
        have q92 := (hdep ⟨15, .data⟩ (by simp) rfl).2 _ rfl _ rfl
        rw [show f 15 = _ from hJ.vals 15 (hdep ⟨15, .data⟩ (by simp) rfl).1 (.agg #[.int .u64 vl, ml]) (by rw [hT]; rfl)] at q92
        rw [Array.getD_eq_getD_getElem?] at q92
        have cm := Lib.hid (RL.out w9 (Ex.trans bw.out hJ.ext))
        clear hsz hdep hout hlat
        go_simp
        refine cm.out.mono ?_
        rintro e w3 ⟨rfl, xq⟩
        exact hK _ _ (hJ.plain (by decide) (by decide) xq (fun x hx => by rw [hT] at hx; first | exact Option.some.inj hx | simpa using hx))
      · have kg := (hdep ⟨13, .guard⟩ (by simp) rfl).2 _ rfl _ rfl
        rw [show f 13 = _ from hJ.vals 13 (hdep ⟨13, .guard⟩ (by simp) rfl).1 (.bool true) (by rw [hT]; rfl)] at kg
        rw [if_pos (wanted_of rfl rfl rfl kg)]
        intro K hK
        have q91 := (hdep ⟨14, .data⟩ (by simp) rfl).2 _ rfl _ rfl
        rw [show f 14 = _ from hJ.vals 14 (hdep ⟨14, .data⟩ (by simp) rfl).1 (.bool true) (by rw [hT]; rfl)] at q91
        have q93 := (hdep ⟨16, .data⟩ (by simp) rfl).2 _ rfl _ rfl
        rw [show f 16 = _ from hJ.vals 16 (hdep ⟨16, .data⟩ (by simp) rfl).1 (.bool true) (by rw [hT]; rfl)] at q93
        rw [Array.getD_eq_getD_getElem?] at q91
        rw [Array.getD_eq_getD_getElem?] at q93
        clear hsz hdep hout hlat
        go_simp
        exact hK _ _ (hJ.plain (by decide) (by decide) (Ex.refl _) (fun x hx => by rw [hT] at hx; first | exact Option.some.inj hx | simpa using hx))
      · rw [if_pos (by rfl)]
        intro K hK
        have q90 := (hdep ⟨13, .data⟩ (by simp) rfl).2 _ rfl _ rfl
        rw [show f 13 = _ from hJ.vals 13 (hdep ⟨13, .data⟩ (by simp) rfl).1 (.bool true) (by rw [hT]; rfl)] at q90
        have q94 := (hdep ⟨17, .data⟩ (by simp) rfl).2 _ rfl _ rfl
        rw [show f 17 = _ from hJ.vals 17 (hdep ⟨17, .data⟩ (by simp) rfl).1 (.bool true) (by rw [hT]; rfl)] at q94
        rw [Array.getD_eq_getD_getElem?] at q90
        rw [Array.getD_eq_getD_getElem?] at q94
        clear hsz hdep hout hlat
        go_simp
        exact hK _ _ (hJ.plain (by decide) (by decide) (Ex.refl _) (fun x hx => by rw [hT] at hx; first | exact Option.some.inj hx | simpa using hx))
      · rw [if_pos (by rfl)]
        intro K hK
        have q95 := (hdep ⟨18, .data⟩ (by simp) rfl).2 _ rfl _ rfl
        rw [show f 18 = _ from hJ.vals 18 (hdep ⟨18, .data⟩ (by simp) rfl).1 (.bool true) (by rw [hT]; rfl)] at q95
        refine wp_mv _ rfl (hK _ _ ?_)
        rw [show a.eval (.tmp 95) = .bool true from q95]
        exact hJ.plain (by decide) (by decide) (Ex.refl _) (fun x hx => by rw [hT] at hx; first | exact Option.some.inj hx | simpa using hx)
      · have kg := (hdep ⟨19, .guard⟩ (by simp) rfl).2 _ rfl _ rfl
        rw [show f 19 = _ from hJ.vals 19 (hdep ⟨19, .guard⟩ (by simp) rfl).1 (.bool true) (by rw [hT]; rfl)] at kg
        rw [if_pos (wanted_of rfl rfl rfl kg)]
        intro K hK
        have q17 := hout 17 (outB_spec (by kernel_rfl))
        refine wp_mv _ rfl (hK _ _ ?_)
        rw [show a.eval (.tmp 17) = .bool true from q17]
        exact hJ.plain (by decide) (by decide) (Ex.refl _) (fun x hx => by rw [hT] at hx; first | exact Option.some.inj hx | simpa using hx)
      · have kg := (hdep ⟨19, .guard⟩ (by simp) rfl).2 _ rfl _ rfl
        rw [show f 19 = _ from hJ.vals 19 (hdep ⟨19, .guard⟩ (by simp) rfl).1 (.bool true) (by rw [hT]; rfl)] at kg
        rw [if_pos (wanted_of rfl rfl rfl kg)]
        intro K hK
        have q97 := (hdep ⟨20, .data⟩ (by simp) rfl).2 _ rfl _ rfl
        rw [show f 20 = _ from hJ.vals 20 (hdep ⟨20, .data⟩ (by simp) rfl).1 (.bool true) (by rw [hT]; rfl)] at q97
        rw [Array.getD_eq_getD_getElem?] at q97
        clear hsz hdep hout hlat
        go_simp
        exact hK _ _ (hJ.plain (by decide) (by decide) (Ex.refl _) (fun x hx => by rw [hT] at hx; first | exact Option.some.inj hx | simpa using hx))
      · have kg := (hdep ⟨19, .guard⟩ (by simp) rfl).2 _ rfl _ rfl
        rw [show f 19 = _ from hJ.vals 19 (hdep ⟨19, .guard⟩ (by simp) rfl).1 (.bool true) (by rw [hT]; rfl)] at kg
        rw [if_pos (wanted_of rfl rfl rfl kg)]
        intro K hK
        have q98 := (hdep ⟨21, .data⟩ (by simp) rfl).2 _ rfl _ rfl
        rw [show f 21 = _ from hJ.vals 21 (hdep ⟨21, .data⟩ (by simp) rfl).1 (.bool false) (by rw [hT]; rfl)] at q98
        refine wp_mv _ rfl (hK _ _ ?_)
        rw [show a.eval (.tmp 98) = .bool false from q98]
        exact hJ.plain (by decide) (by decide) (Ex.refl _) (fun x hx => by rw [hT] at hx; first | exact Option.some.inj hx | simpa using hx)
      · have kg := (hdep ⟨22, .guard⟩ (by simp) rfl).2 _ rfl _ rfl
        rw [show f 22 = _ from hJ.vals 22 (hdep ⟨22, .guard⟩ (by simp) rfl).1 (.bool false) (by rw [hT]; rfl)] at kg
        rw [if_neg (not_wanted rfl rfl rfl kg (by decide))]
        exact hJ.plain (by decide) (by decide) (Ex.refl _) (fun x hx => by rw [hT] at hx; change none = some x at hx; cases hx)
      · have kg := (hdep ⟨22, .guard⟩ (by simp) rfl).2 _ rfl _ rfl
        rw [show f 22 = _ from hJ.vals 22 (hdep ⟨22, .guard⟩ (by simp) rfl).1 (.bool false) (by rw [hT]; rfl)] at kg
        rw [if_neg (not_wanted rfl rfl rfl kg (by decide))]
        exact hJ.plain (by decide) (by decide) (Ex.refl _) (fun x hx => by rw [hT] at hx; change none = some x at hx; cases hx)
      · have kg := (hdep ⟨22, .guard⟩ (by simp) rfl).2 _ rfl _ rfl
        rw [show f 22 = _ from hJ.vals 22 (hdep ⟨22, .guard⟩ (by simp) rfl).1 (.bool false) (by rw [hT]; rfl)] at kg
        rw [if_neg (not_wanted rfl rfl rfl kg (by decide))]
        exact hJ.plain (by decide) (by decide) (Ex.refl _) (fun x hx => by rw [hT] at hx; change none = some x at hx; cases hx)
      · have kg := (hdep ⟨19, .guard⟩ (by simp) rfl).2 _ rfl _ rfl
        rw [show f 19 = _ from hJ.vals 19 (hdep ⟨19, .guard⟩ (by simp) rfl).1 (.bool true) (by rw [hT]; rfl)] at kg
        rw [if_pos (wanted_of rfl rfl rfl kg)]
        intro K hK
        have q99 := (hdep ⟨22, .data⟩ (by simp) rfl).2 _ rfl _ rfl
        rw [show f 22 = _ from hJ.vals 22 (hdep ⟨22, .data⟩ (by simp) rfl).1 (.bool false) (by rw [hT]; rfl)] at q99
        have q102 := (hdep ⟨25, .data⟩ (by simp) rfl).2 _ rfl _ rfl
        rw [Array.getD_eq_getD_getElem?] at q99
        rw [Array.getD_eq_getD_getElem?] at q102
        clear hsz hdep hout hlat
        go_simp
        exact hK _ _ (hJ.plain (by decide) (by decide) (Ex.refl _) (fun x hx => by rw [hT] at hx; first | exact Option.some.inj hx | simpa using hx))
      · have kg := (hdep ⟨19, .guard⟩ (by simp) rfl).2 _ rfl _ rfl
        rw [show f 19 = _ from hJ.vals 19 (hdep ⟨19, .guard⟩ (by simp) rfl).1 (.bool true) (by rw [hT]; rfl)] at kg
        rw [if_pos (wanted_of rfl rfl rfl kg)]
        intro K hK
        have q103 := (hdep ⟨26, .data⟩ (by simp) rfl).2 _ rfl _ rfl
        rw [show f 26 = _ from hJ.vals 26 (hdep ⟨26, .data⟩ (by simp) rfl).1 (.bool false) (by rw [hT]; rfl)] at q103
        refine wp_mv _ rfl (hK _ _ ?_)
        rw [show a.eval (.tmp 103) = .bool false from q103]
        exact hJ.plain (by decide) (by decide) (Ex.refl _) (fun x hx => by rw [hT] at hx; first | exact Option.some.inj hx | simpa using hx)
      · have kg := (hdep ⟨27, .guard⟩ (by simp) rfl).2 _ rfl _ rfl
        rw [show f 27 = _ from hJ.vals 27 (hdep ⟨27, .guard⟩ (by simp) rfl).1 (.bool false) (by rw [hT]; rfl)] at kg
        rw [if_pos (wanted_of rfl rfl rfl kg)]
        intro K hK
        have q17 := hout 17 (outB_spec (by kernel_rfl))
        refine wp_mv _ rfl (hK _ _ ?_)
        rw [show a.eval (.tmp 17) = .bool true from q17]
        exact hJ.plain (by decide) (by decide) (Ex.refl _) (fun x hx => by rw [hT] at hx; first | exact Option.some.inj hx | simpa using hx)
      · have kg := (hdep ⟨27, .guard⟩ (by simp) rfl).2 _ rfl _ rfl
        rw [show f 27 = _ from hJ.vals 27 (hdep ⟨27, .guard⟩ (by simp) rfl).1 (.bool false) (by rw [hT]; rfl)] at kg
        rw [if_pos (wanted_of rfl rfl rfl kg)]
        intro K hK
        have q105 := (hdep ⟨28, .data⟩ (by simp) rfl).2 _ rfl _ rfl
        rw [show f 28 = _ from hJ.vals 28 (hdep ⟨28, .data⟩ (by simp) rfl).1 (.bool true) (by rw [hT]; rfl)] at q105
        refine wp_mv _ rfl (hK _ _ ?_)
        rw [show a.eval (.tmp 105) = .bool true from q105]
        exact hJ.plain (by decide) (by decide) (Ex.refl _) (fun x hx => by rw [hT] at hx; first | exact Option.some.inj hx | simpa using hx)
      · have kg := (hdep ⟨29, .guard⟩ (by simp) rfl).2 _ rfl _ rfl
        rw [show f 29 = _ from hJ.vals 29 (hdep ⟨29, .guard⟩ (by simp) rfl).1 (.bool true) (by rw [hT]; rfl)] at kg
        rw [if_pos (wanted_of rfl rfl rfl kg)]
        intro K hK
        have q16 := hout 16 (outB_spec (by kernel_rfl))
        exact Sm.wp_ld _ g16 (markL C vl pl.l) rfl q16 (DB.ext D9.out hJ.ext) (hK _ _ (hJ.plain (by decide) (by decide) (Ex.refl _) (fun x hx => by rw [hT] at hx; first | exact Option.some.inj hx | simpa using hx)))
      · have kg := (hdep ⟨29, .guard⟩ (by simp) rfl).2 _ rfl _ rfl
        rw [show f 29 = _ from hJ.vals 29 (hdep ⟨29, .guard⟩ (by simp) rfl).1 (.bool true) (by rw [hT]; rfl)] at kg
        rw [if_pos (wanted_of rfl rfl rfl kg)]
        intro K hK
        have q4 := hout 4 (outB_spec (by kernel_rfl))
        exact Sm.wp_ld _ B C rfl q4 (d0.out.ext hJ.ext) (hK _ _ (hJ.plain (by decide) (by decide) (Ex.refl _) (fun x hx => by rw [hT] at hx; first | exact Option.some.inj hx | simpa using hx)))
      · have kg := (hdep ⟨29, .guard⟩ (by simp) rfl).2 _ rfl _ rfl
        rw [show f 29 = _ from hJ.vals 29 (hdep ⟨29, .guard⟩ (by simp) rfl).1 (.bool true) (by rw [hT]; rfl)] at kg
        rw [if_pos (wanted_of rfl rfl rfl kg)]
        intro K hK
        have q6 := hout 6 (outB_spec (by kernel_rfl))
        refine wp_ld45g _ (B + 2) _ _ rfl q6 (l0.out.ext hJ.ext) (hK _ _ (hJ.plain (by decide) (by decide) (Ex.refl _) (fun x hx => by rw [hT] at hx; first | exact Option.some.inj hx | simpa using hx)))
      · have kg := (hdep ⟨29, .guard⟩ (by simp) rfl).2 _ rfl _ rfl
        rw [show f 29 = _ from hJ.vals 29 (hdep ⟨29, .guard⟩ (by simp) rfl).1 (.bool true) (by rw [hT]; rfl)] at kg
        rw [if_pos (wanted_of rfl rfl rfl kg)]
        intro K hK
        have q108 := (hdep ⟨31, .data⟩ (by simp) rfl).2 _ rfl _ rfl
        rw [show f 31 = _ from hJ.vals 31 (hdep ⟨31, .data⟩ (by simp) rfl).1 (digV C) (by rw [hT]; rfl)] at q108
        have q109 := (hdep ⟨32, .data⟩ (by simp) rfl).2 _ rfl _ rfl
        rw [show f 32 = _ from hJ.vals 32 (hdep ⟨32, .data⟩ (by simp) rfl).1 (.agg #[.int .u64 vl, ml]) (by rw [hT]; rfl)] at q109
        rw [Array.getD_eq_getD_getElem?] at q108
        rw [Array.getD_eq_getD_getElem?] at q109
        have cm := Lib.hid (MR.out w9 (Ex.trans bw.out hJ.ext))
        clear hsz hdep hout hlat
        go_simp
        refine cm.out.mono ?_
        rintro e w3 ⟨rfl, xq⟩
        exact hK _ _ (hJ.plain (by decide) (by decide) xq (fun x hx => by rw [hT] at hx; first | exact Option.some.inj hx | simpa using hx))
      · have kg := (hdep ⟨29, .guard⟩ (by simp) rfl).2 _ rfl _ rfl
        rw [show f 29 = _ from hJ.vals 29 (hdep ⟨29, .guard⟩ (by simp) rfl).1 (.bool true) (by rw [hT]; rfl)] at kg
        rw [if_pos (wanted_of rfl rfl rfl kg)]
        intro K hK
        have q107 := (hdep ⟨30, .data⟩ (by simp) rfl).2 _ rfl _ rfl
        rw [show f 30 = _ from hJ.vals 30 (hdep ⟨30, .data⟩ (by simp) rfl).1 (digV (markL C vl pl.l)) (by rw [hT]; rfl)] at q107
        have q110 := (hdep ⟨33, .data⟩ (by simp) rfl).2 _ rfl _ rfl
        rw [show f 33 = _ from hJ.vals 33 (hdep ⟨33, .data⟩ (by simp) rfl).1 (digV (markL C vl pl.l)) (by rw [hT]; rfl)] at q110
        refine Sm.wp_eql_dig _ _ _ rfl (markL C vl pl.l) (markL C vl pl.l) rfl rfl q107 q110 ?_
        rw [decide_eq_true rfl]
        exact hK _ _ (hJ.plain (by decide) (by decide) (Ex.refl _) (fun x hx => by rw [hT] at hx; first | exact Option.some.inj hx | simpa using hx))
      · have kg := (hdep ⟨27, .guard⟩ (by simp) rfl).2 _ rfl _ rfl
        rw [show f 27 = _ from hJ.vals 27 (hdep ⟨27, .guard⟩ (by simp) rfl).1 (.bool false) (by rw [hT]; rfl)] at kg
        rw [if_pos (wanted_of rfl rfl rfl kg)]
        intro K hK
        have q106 := (hdep ⟨29, .data⟩ (by simp) rfl).2 _ rfl _ rfl
        rw [show f 29 = _ from hJ.vals 29 (hdep ⟨29, .data⟩ (by simp) rfl).1 (.bool true) (by rw [hT]; rfl)] at q106
        have q111 := (hdep ⟨34, .data⟩ (by simp) rfl).2 _ rfl _ rfl
        rw [show f 34 = _ from hJ.vals 34 (hdep ⟨34, .data⟩ (by simp) rfl).1 (.bool true) (by rw [hT]; rfl)] at q111
        rw [Array.getD_eq_getD_getElem?] at q106
        rw [Array.getD_eq_getD_getElem?] at q111
        clear hsz hdep hout hlat
        go_simp
        exact hK _ _ (hJ.plain (by decide) (by decide) (Ex.refl _) (fun x hx => by rw [hT] at hx; first | exact Option.some.inj hx | simpa using hx))
      · have kg := (hdep ⟨19, .guard⟩ (by simp) rfl).2 _ rfl _ rfl
        rw [show f 19 = _ from hJ.vals 19 (hdep ⟨19, .guard⟩ (by simp) rfl).1 (.bool true) (by rw [hT]; rfl)] at kg
        rw [if_pos (wanted_of rfl rfl rfl kg)]
        intro K hK
        have q104 := (hdep ⟨27, .data⟩ (by simp) rfl).2 _ rfl _ rfl
        rw [show f 27 = _ from hJ.vals 27 (hdep ⟨27, .data⟩ (by simp) rfl).1 (.bool false) (by rw [hT]; rfl)] at q104
        have q112 := (hdep ⟨35, .data⟩ (by simp) rfl).2 _ rfl _ rfl
        rw [show f 35 = _ from hJ.vals 35 (hdep ⟨35, .data⟩ (by simp) rfl).1 (.bool true) (by rw [hT]; rfl)] at q112
        rw [Array.getD_eq_getD_getElem?] at q104
        rw [Array.getD_eq_getD_getElem?] at q112
        clear hsz hdep hout hlat
        go_simp
        exact hK _ _ (hJ.plain (by decide) (by decide) (Ex.refl _) (fun x hx => by rw [hT] at hx; first | exact Option.some.inj hx | simpa using hx))
      · rw [if_pos (by rfl)]
        intro K hK
        have q96 := (hdep ⟨19, .data⟩ (by simp) rfl).2 _ rfl _ rfl
        rw [show f 19 = _ from hJ.vals 19 (hdep ⟨19, .data⟩ (by simp) rfl).1 (.bool true) (by rw [hT]; rfl)] at q96
        have q113 := (hdep ⟨36, .data⟩ (by simp) rfl).2 _ rfl _ rfl
        rw [show f 36 = _ from hJ.vals 36 (hdep ⟨36, .data⟩ (by simp) rfl).1 (.bool true) (by rw [hT]; rfl)] at q113
        rw [Array.getD_eq_getD_getElem?] at q96
        rw [Array.getD_eq_getD_getElem?] at q113
        clear hsz hdep hout hlat
        go_simp
        exact hK _ _ (hJ.plain (by decide) (by decide) (Ex.refl _) (fun x hx => by rw [hT] at hx; first | exact Option.some.inj hx | simpa using hx))
      · rw [if_pos (by rfl)]
        intro K hK
        have q114 := (hdep ⟨37, .data⟩ (by simp) rfl).2 _ rfl _ rfl
        rw [show f 37 = _ from hJ.vals 37 (hdep ⟨37, .data⟩ (by simp) rfl).1 (.bool true) (by rw [hT]; rfl)] at q114
        rw [Array.getD_eq_getD_getElem?] at q114
        clear hsz hdep hout hlat
        go_simp
        exact hK _ _ (hJ.plain (by decide) (by decide) (Ex.refl _) (fun x hx => by rw [hT] at hx; first | exact Option.some.inj hx | simpa using hx))
    · intro listed f w9 hall hJ
      have f0 : f 0 = .int .i64 cN := hJ.vals 0 (hall 0 (by simp)) _ (by rw [hT]; rfl)
      have f1 : f 1 = .int .i64 cN := hJ.vals 1 (hall 1 (by simp)) _ (by rw [hT]; rfl)
      have f2 : f 2 = .bool true := hJ.vals 2 (hall 2 (by simp)) _ (by rw [hT]; rfl)
      have f3 : f 3 = .bool true := hJ.vals 3 (hall 3 (by simp)) _ (by rw [hT]; rfl)
      have f4 : f 4 = .bool false := hJ.vals 4 (hall 4 (by simp)) _ (by rw [hT]; rfl)
      have f5 : f 5 = .bool false := hJ.vals 5 (hall 5 (by simp)) _ (by rw [hT]; rfl)
      have f6 : f 6 = .bool true := hJ.vals 6 (hall 6 (by simp)) _ (by rw [hT]; rfl)
      have f7 : f 7 = .bool true := hJ.vals 7 (hall 7 (by simp)) _ (by rw [hT]; rfl)
      have f8 : f 8 = .bool true := hJ.vals 8 (hall 8 (by simp)) _ (by rw [hT]; rfl)
      have f9 : f 9 = .int .i64 30 := hJ.vals 9 (hall 9 (by simp)) _ (by rw [hT]; rfl)
      have f10 : f 10 = .int .i64 30 := hJ.vals 10 (hall 10 (by simp)) _ (by rw [hT]; rfl)
      have f11 : f 11 = .bool true := hJ.vals 11 (hall 11 (by simp)) _ (by rw [hT]; rfl)
      have f12 : f 12 = .bool true := hJ.vals 12 (hall 12 (by simp)) _ (by rw [hT]; rfl)
      have f13 : f 13 = .bool true := hJ.vals 13 (hall 13 (by simp)) _ (by rw [hT]; rfl)
      have f14 : f 14 = .bool true := hJ.vals 14 (hall 14 (by simp)) _ (by rw [hT]; rfl)
      have f15 : f 15 = .agg #[.int .u64 vl, ml] := hJ.vals 15 (hall 15 (by simp)) _ (by rw [hT]; rfl)
      have f16 : f 16 = .bool true := hJ.vals 16 (hall 16 (by simp)) _ (by rw [hT]; rfl)
      have f17 : f 17 = .bool true := hJ.vals 17 (hall 17 (by simp)) _ (by rw [hT]; rfl)
      have f18 : f 18 = .bool true := hJ.vals 18 (hall 18 (by simp)) _ (by rw [hT]; rfl)
      have f19 : f 19 = .bool true := hJ.vals 19 (hall 19 (by simp)) _ (by rw [hT]; rfl)
      have f20 : f 20 = .bool true := hJ.vals 20 (hall 20 (by simp)) _ (by rw [hT]; rfl)
      have f21 : f 21 = .bool false := hJ.vals 21 (hall 21 (by simp)) _ (by rw [hT]; rfl)
      have f22 : f 22 = .bool false := hJ.vals 22 (hall 22 (by simp)) _ (by rw [hT]; rfl)
      have f26 : f 26 = .bool false := hJ.vals 26 (hall 26 (by simp)) _ (by rw [hT]; rfl)
      have f27 : f 27 = .bool false := hJ.vals 27 (hall 27 (by simp)) _ (by rw [hT]; rfl)
      have f28 : f 28 = .bool true := hJ.vals 28 (hall 28 (by simp)) _ (by rw [hT]; rfl)
      have f29 : f 29 = .bool true := hJ.vals 29 (hall 29 (by simp)) _ (by rw [hT]; rfl)
      have f30 : f 30 = digV (markL C vl pl.l) := hJ.vals 30 (hall 30 (by simp)) _ (by rw [hT]; rfl)
      have f31 : f 31 = digV C := hJ.vals 31 (hall 31 (by simp)) _ (by rw [hT]; rfl)
      have f32 : f 32 = .agg #[.int .u64 vl, ml] := hJ.vals 32 (hall 32 (by simp)) _ (by rw [hT]; rfl)
      have f33 : f 33 = digV (markL C vl pl.l) := hJ.vals 33 (hall 33 (by simp)) _ (by rw [hT]; rfl)
      have f34 : f 34 = .bool true := hJ.vals 34 (hall 34 (by simp)) _ (by rw [hT]; rfl)
      have f35 : f 35 = .bool true := hJ.vals 35 (hall 35 (by simp)) _ (by rw [hT]; rfl)
      have f36 : f 36 = .bool true := hJ.vals 36 (hall 36 (by simp)) _ (by rw [hT]; rfl)
      have f37 : f 37 = .bool true := hJ.vals 37 (hall 37 (by simp)) _ (by rw [hT]; rfl)
      have f38 : f 38 = .bool true := hJ.vals 38 (hall 38 (by simp)) _ (by rw [hT]; rfl)
      have xw := hJ.ext
      simp only [putAll, Act.put, List.setIfInBounds_toArray, List.set_cons_zero, List.set_cons_succ, Nat.zero_add, Nat.reduceAdd]
      rw [f0, f1, f2, f3, f4, f5, f6, f7, f8, f9, f10, f11, f12, f13, f14, f15, f16, f17, f18, f19, f20, f21, f22, f26, f27, f28, f29, f30, f31, f32, f33, f34, f35, f36, f37, f38]
      clear f0 f1 f2 f3 f4 f5 f6 f7 f8 f9 f10 f11 f12 f13 f14 f15 f16 f17 f18 f19 f20 f21 f22 f26 f27 f28 f29 f30 f31 f32 f33 f34 f35 f36 f37 f38 hJ hall hT
      generalize f 23 = y23
      generalize f 24 = y24
      generalize f 25 = y25
      replace bw := Lib.hid (Ex.trans bw.out xw)
      clear xw
      go_wp2_with (first | (with_reducible refine Sm.stop_load59 ?_) | (with_reducible refine Sm.stop_store59 ?_) | (with_reducible refine stop_load45 ?_) | (with_reducible refine stop_store45 ?_))
      go_ret
      exact ⟨rfl, bw.out⟩
set_option maxHeartbeats 8000000 in
set_option maxRecDepth 100000 in
theorem same15_C (C : List UInt8) (hC : C.length = 16) (va vl : Int) (hv0 : 0 ≤ vl) (hv1 : vl < 18446744073709551616) (pa pl : Pt) (q : Vp) (w : World) (ha : pa.In w w.heap.size) (hl : pl.In w w.heap.size) (hq : q.In w w.heap.size) (hL : q.l.length ≤ 9223372036854775807) (hLl : pl.l.length ≤ 9223372036854775807) (hf : followsB va pa.l vl pl.l = true) (hc : chkB C va pa.l vl pl.l q.l = true) :
    Calls Try.prog 38 #[digV C, LV va pa, LV vl pl, q.V] w fun e w' => e = .returned (.bool true) ∧ Below w.heap.size w w' := by
  obtain ⟨ma, hma⟩ : ∃ ma : Value, ma = pa.V := ⟨_, rfl⟩
  obtain ⟨ml, hml⟩ : ∃ ml : Value, ml = pl.V := ⟨_, rfl⟩
  obtain ⟨qv, hqv⟩ : ∃ qv, qv = q.V := ⟨_, rfl⟩
  obtain ⟨cN, hcN⟩ : ∃ cN : Int, cN = (chkN C va pa.l vl pl.l q.l : Nat) := ⟨_, rfl⟩
  obtain ⟨cb, hcb⟩ : ∃ cb, cb = chkB C va pa.l vl pl.l q.l := ⟨_, rfl⟩
  have HML := Lib.hid hml
  have FO := Lib.hid (fun W (h : Ex w W) => (show Calls Try.prog 28 #[.agg #[.int .u64 va, ma], .agg #[.int .u64 vl, ml]] W fun e w' => e = .returned (.bool true) ∧ Below W.heap.size W w' by rw [hma, hml, ← hf]; exact follows_any va vl pa pl W (ha.ext h) (hl.ext h) hLl))
  have CH := Lib.hid (fun W (h : Ex w W) => (show Calls Try.prog 43 #[digV C, .agg #[.int .u64 va, ma], .agg #[.int .u64 vl, ml], qv] W fun e w' => e = .returned (.tuple #[.int .i64 cN, .bool true]) ∧ Below W.heap.size W w' by rw [hma, hml, hcN, ← hc, hqv]; exact check_any C hC va vl hv0 hv1 pa pl q W (ha.ext h) (hl.ext h) (hq.ext h) hL))
  have RC := Lib.hid (fun W (h : Ex w W) => (show Calls Try.prog 54 #[digV C, .agg #[.int .u64 va, ma], .agg #[.int .u64 vl, ml], qv] W fun e w' => e = .returned (.tuple #[.int .i64 cN, .bool true]) ∧ Below W.heap.size W w' by rw [hma, hml, hcN, ← hc, hqv]; exact rcheck_any C hC va vl hv0 hv1 pa pl q W (ha.ext h) (hl.ext h) (hq.ext h) hL))
  have AD := Lib.hid (fun W (h : Ex w W) => (show Calls Try.prog 55 #[digV C, .agg #[.int .u64 va, ma], .agg #[.int .u64 vl, ml], qv] W (AdPost vl pl.l 0 W) by
    have h := adopt_any C hC va vl hv0 hv1 pa pl q W (ha.ext h) (hl.ext h) (hq.ext h) hL hLl
    unfold adV adL adE at h
    rw [hf, hc] at h
    rw [hma, hml, hqv]; exact h))
  have RL := Lib.hid (fun W (h : Ex w W) => (show Calls Try.prog 49 #[.agg #[.int .u64 vl, ml]] W fun e w' => e = .returned (.bool (rightB vl pl.l)) ∧ Below W.heap.size W w' by rw [hml]; exact right_any vl pl W (hl.ext h)))
  have MK := Lib.hid (fun W (h : Ex w W) => (show Calls Try.prog 56 #[digV C, .agg #[.int .u64 vl, ml]] W fun e w' => e = .returned (.tuple #[digV (markR C vl pl.l), .bool (rightB vl pl.l)]) ∧ Below W.heap.size W w' by rw [hml]; exact mark_any C hC vl hv0 hv1 pl W (hl.ext h)))
  have MR0 := Lib.hid (fun (hr : rightB vl pl.l = true) W (h : Ex w W) => (show Calls Try.prog 57 #[digV C, .agg #[.int .u64 vl, ml]] W fun e w' => e = .returned (digV (markL C vl pl.l)) ∧ Below W.heap.size W w' by rw [hml]; exact rmark_any C hC vl hv0 hv1 pl (right_len hr).2.2.2.1 W (hl.ext h)))
  have SM := Lib.hid (fun (px : Pt) W (h : Ex w W) (hx : px.In W W.heap.size) (hxl : px.l = pl.l) => (show Calls Try.prog 29 #[LV vl px, .agg #[.int .u64 vl, ml]] W fun e w' => e = .returned (.bool true) ∧ Below W.heap.size W w' by
    have h := rsame_any vl vl px pl W hx (hl.ext h) (by rw [hxl]; exact hLl) hLl
    rw [hxl, sameB_self] at h; rw [hml]; exact h))
  obtain ⟨cs, hcs⟩ : ∃ cs, cs = (Lib.byteCells C).toArray := ⟨_, rfl⟩
  have d0 : Hid (DB (((w.alloc (.cells cs 59)).alloc (.cells #[.int .u64 va, ma] 45)).alloc (.cells #[.int .u64 vl, ml] 45)) w.heap.size C) := Lib.hid ⟨hC, by rw [hcs]; exact ((Sm.Bk.new rfl _ _).more _).more _⟩
  have a0 : Hid (Bk (((w.alloc (.cells cs 59)).alloc (.cells #[.int .u64 va, ma] 45)).alloc (.cells #[.int .u64 vl, ml] 45)) (w.heap.size + 1) 45 #[.int .u64 va, ma]) := Lib.hid ((Bk.new (by simp) _ _).more _)
  have l0 : Hid (Bk (((w.alloc (.cells cs 59)).alloc (.cells #[.int .u64 va, ma] 45)).alloc (.cells #[.int .u64 vl, ml] 45)) (w.heap.size + 2) 45 #[.int .u64 vl, ml]) := Lib.hid (Bk.new (by simp) _ _)
  have BW := Lib.hid (show Ex w (((w.alloc (.cells cs 59)).alloc (.cells #[.int .u64 va, ma] 45)).alloc (.cells #[.int .u64 vl, ml] 45)) from (((Below.refl _ _).alloc (Nat.le_refl _) _).alloc (by simp) _).alloc (by simp; omega) _)
  rw [show (Calls Try.prog 38 #[digV C, LV va pa, LV vl pl, q.V] w) = (Calls Try.prog 38 #[.agg cs, .agg #[.int .u64 va, ma], .agg #[.int .u64 vl, ml], qv] w) by rw [hcs, hma, hml, hqv]; rfl]
  rw [hc] at hcb
  subst hcb
  clear hcs hma hml hqv hv0 hv1 hC ha hq hL hLl hl hf hcN hc
  go_enter Try.func38, Try.ntmps38
  go_wp2_with (first | (with_reducible refine Sm.stop_load59 ?_) | (with_reducible refine Sm.stop_store59 ?_) | (with_reducible refine stop_load45 ?_) | (with_reducible refine stop_store45 ?_))
  have bw := BW.out
  generalize hw1 : ((w.alloc (.cells cs 59)).alloc (.cells #[.int .u64 va, ma] 45)).alloc (.cells #[.int .u64 vl, ml] 45) = w1 at *
  obtain ⟨B, hB⟩ : ∃ B, B = w.heap.size := ⟨_, rfl⟩
  rw [← hB] at d0 a0 l0 ⊢
  have HB := Lib.hid hB
  clear hw1 hB BW
  have bw := Lib.hid bw
  (with_reducible refine ⟨?_⟩); (with_reducible refine at_any ?_ ?_); (focus go_simp); refine fun K0 hK => Sm.wp_ld _ B C rfl rfl d0.out (hK _ _ ?_)
  clear hK
  go_wp2_with (first | (with_reducible refine Sm.stop_load59 ?_) | (with_reducible refine Sm.stop_store59 ?_) | (with_reducible refine stop_load45 ?_) | (with_reducible refine stop_store45 ?_))
  (with_reducible refine ⟨?_⟩); (with_reducible refine at_any ?_ ?_); (focus go_simp); refine fun K0 hK => wp_ld45g _ (B + 1) _ _ rfl rfl a0.out (hK _ _ ?_)
  clear hK
  go_wp2_with (first | (with_reducible refine Sm.stop_load59 ?_) | (with_reducible refine Sm.stop_store59 ?_) | (with_reducible refine stop_load45 ?_) | (with_reducible refine stop_store45 ?_))
  (with_reducible refine ⟨?_⟩); (with_reducible refine at_any ?_ ?_); (focus go_simp); refine fun K0 hK => wp_ld45g _ (B + 2) _ _ rfl rfl l0.out (hK _ _ ?_)
  clear hK
  have C1 := Lib.hid (CH.out _ bw.out)
  clear CH
  go_wp2_with (first | (with_reducible refine Sm.stop_load59 ?_) | (with_reducible refine Sm.stop_store59 ?_) | (with_reducible refine stop_load45 ?_) | (with_reducible refine stop_store45 ?_))
  refine C1.out.mono ?_
  rintro e w2 ⟨rfl, xr⟩
  replace d0 := Lib.hid (d0.out.ext xr)
  replace a0 := Lib.hid (a0.out.ext xr)
  replace l0 := Lib.hid (l0.out.ext xr)
  replace bw := Lib.hid (Ex.trans bw.out xr)
  clear C1 xr
  go_wp2_with (first | (with_reducible refine Sm.stop_load59 ?_) | (with_reducible refine Sm.stop_store59 ?_) | (with_reducible refine stop_load45 ?_) | (with_reducible refine stop_store45 ?_))
  (with_reducible refine ⟨?_⟩); (with_reducible refine at_any ?_ ?_); (focus go_simp); refine fun K0 hK => Sm.wp_ld _ B C rfl rfl d0.out (hK _ _ ?_)
  clear hK
  go_wp2_with (first | (with_reducible refine Sm.stop_load59 ?_) | (with_reducible refine Sm.stop_store59 ?_) | (with_reducible refine stop_load45 ?_) | (with_reducible refine stop_store45 ?_))
  (with_reducible refine ⟨?_⟩); (with_reducible refine at_any ?_ ?_); (focus go_simp); refine fun K0 hK => wp_ld45g _ (B + 1) _ _ rfl rfl a0.out (hK _ _ ?_)
  clear hK
  go_wp2_with (first | (with_reducible refine Sm.stop_load59 ?_) | (with_reducible refine Sm.stop_store59 ?_) | (with_reducible refine stop_load45 ?_) | (with_reducible refine stop_store45 ?_))
  (with_reducible refine ⟨?_⟩); (with_reducible refine at_any ?_ ?_); (focus go_simp); refine fun K0 hK => wp_ld45g _ (B + 2) _ _ rfl rfl l0.out (hK _ _ ?_)
  clear hK
  have C1 := Lib.hid (RC.out _ bw.out)
  clear RC
  go_wp2_with (first | (with_reducible refine Sm.stop_load59 ?_) | (with_reducible refine Sm.stop_store59 ?_) | (with_reducible refine stop_load45 ?_) | (with_reducible refine stop_store45 ?_))
  refine C1.out.mono ?_
  rintro e w3 ⟨rfl, xr⟩
  replace d0 := Lib.hid (d0.out.ext xr)
  replace a0 := Lib.hid (a0.out.ext xr)
  replace l0 := Lib.hid (l0.out.ext xr)
  replace bw := Lib.hid (Ex.trans bw.out xr)
  clear C1 xr
  go_wp2_with (first | (with_reducible refine Sm.stop_load59 ?_) | (with_reducible refine Sm.stop_store59 ?_) | (with_reducible refine stop_load45 ?_) | (with_reducible refine stop_store45 ?_))
  (with_reducible refine ⟨?_⟩); (with_reducible refine at_any ?_ ?_); (focus go_simp); refine fun K0 hK => Sm.wp_ld _ B C rfl rfl d0.out (hK _ _ ?_)
  clear hK
  go_wp2_with (first | (with_reducible refine Sm.stop_load59 ?_) | (with_reducible refine Sm.stop_store59 ?_) | (with_reducible refine stop_load45 ?_) | (with_reducible refine stop_store45 ?_))
  (with_reducible refine ⟨?_⟩); (with_reducible refine at_any ?_ ?_); (focus go_simp); refine fun K0 hK => wp_ld45g _ (B + 1) _ _ rfl rfl a0.out (hK _ _ ?_)
  clear hK
  go_wp2_with (first | (with_reducible refine Sm.stop_load59 ?_) | (with_reducible refine Sm.stop_store59 ?_) | (with_reducible refine stop_load45 ?_) | (with_reducible refine stop_store45 ?_))
  (with_reducible refine ⟨?_⟩); (with_reducible refine at_any ?_ ?_); (focus go_simp); refine fun K0 hK => wp_ld45g _ (B + 2) _ _ rfl rfl l0.out (hK _ _ ?_)
  clear hK
  have C1 := Lib.hid (AD.out _ bw.out)
  clear AD
  go_wp2_with (first | (with_reducible refine Sm.stop_load59 ?_) | (with_reducible refine Sm.stop_store59 ?_) | (with_reducible refine stop_load45 ?_) | (with_reducible refine stop_store45 ?_))
  refine C1.out.mono ?_
  rintro e w4 ⟨px, rfl, hxl, hx, xr⟩
  replace d0 := Lib.hid (d0.out.ext xr)
  replace a0 := Lib.hid (a0.out.ext xr)
  replace l0 := Lib.hid (l0.out.ext xr)
  replace bw := Lib.hid (Ex.trans bw.out xr)
  have HXL := Lib.hid hxl
  clear C1 xr hxl
  go_wp2_with (first | (with_reducible refine Sm.stop_load59 ?_) | (with_reducible refine Sm.stop_store59 ?_) | (with_reducible refine stop_load45 ?_) | (with_reducible refine stop_store45 ?_))
  (with_reducible refine ⟨?_⟩); (with_reducible refine at_any ?_ ?_); (focus go_simp); refine fun K0 hK => wp_st45 _ _ w4.heap.size vl 0 px nilP rfl rfl rfl (Bk.new rfl _ _) (fun w5 hd ho => hK _ _ ?_)
  have PX := Lib.hid ((hx.ext ((Below.refl _ _).alloc (Nat.le_refl _) _)).st (n := 0) (q := nilP) ho (Bk.new rfl _ _))
  have xs := ho.ex
  obtain ⟨g13, hg13⟩ : ∃ g, g = w4.heap.size := ⟨_, rfl⟩
  rw [← hg13] at hd ⊢
  have A9 := Lib.hid hd
  replace d0 := Lib.hid (d0.out.ext xs)
  replace a0 := Lib.hid (a0.out.ext xs)
  replace l0 := Lib.hid (l0.out.ext xs)
  replace bw := Lib.hid (Ex.trans bw.out xs)
  clear hK ho hd xs hg13 hx
  go_wp2_with (first | (with_reducible refine Sm.stop_load59 ?_) | (with_reducible refine Sm.stop_store59 ?_) | (with_reducible refine stop_load45 ?_) | (with_reducible refine stop_store45 ?_))
  (with_reducible refine ⟨?_⟩); (with_reducible refine at_any ?_ ?_); (focus go_simp); refine fun K0 hK => wp_ld45g _ (B + 1) _ _ rfl rfl a0.out (hK _ _ ?_)
  clear hK
  go_wp2_with (first | (with_reducible refine Sm.stop_load59 ?_) | (with_reducible refine Sm.stop_store59 ?_) | (with_reducible refine stop_load45 ?_) | (with_reducible refine stop_store45 ?_))
  (with_reducible refine ⟨?_⟩); (with_reducible refine at_any ?_ ?_); (focus go_simp); refine fun K0 hK => wp_ld45g _ (B + 2) _ _ rfl rfl l0.out (hK _ _ ?_)
  clear hK
  have C1 := Lib.hid (FO.out _ bw.out)
  clear FO
  go_wp2_with (first | (with_reducible refine Sm.stop_load59 ?_) | (with_reducible refine Sm.stop_store59 ?_) | (with_reducible refine stop_load45 ?_) | (with_reducible refine stop_store45 ?_))
  refine C1.out.mono ?_
  rintro e w6 ⟨rfl, xr⟩
  replace d0 := Lib.hid (d0.out.ext xr)
  replace a0 := Lib.hid (a0.out.ext xr)
  replace l0 := Lib.hid (l0.out.ext xr)
  replace bw := Lib.hid (Ex.trans bw.out xr)
  replace A9 := Lib.hid (LB.ext A9.out xr)
  replace PX := Lib.hid (Pt.In.ext PX.out xr)
  clear C1 xr
  go_wp2_with (first | (with_reducible refine Sm.stop_load59 ?_) | (with_reducible refine Sm.stop_store59 ?_) | (with_reducible refine stop_load45 ?_) | (with_reducible refine stop_store45 ?_))
  (with_reducible refine ⟨?_⟩); (with_reducible refine at_any ?_ ?_); (focus go_simp); refine fun K0 hK => wp_ld45 _ g13 vl px rfl rfl A9.out (hK _ _ ?_)
  clear hK
  go_wp2_with (first | (with_reducible refine Sm.stop_load59 ?_) | (with_reducible refine Sm.stop_store59 ?_) | (with_reducible refine stop_load45 ?_) | (with_reducible refine stop_store45 ?_))
  (with_reducible refine ⟨?_⟩); (with_reducible refine at_any ?_ ?_); (focus go_simp); refine fun K0 hK => wp_ld45g _ (B + 2) _ _ rfl rfl l0.out (hK _ _ ?_)
  clear hK
  have C1 := Lib.hid (SM.out px _ bw.out PX.out HXL.out)
  unfold LV at C1
  clear SM
  go_wp2_with (first | (with_reducible refine Sm.stop_load59 ?_) | (with_reducible refine Sm.stop_store59 ?_) | (with_reducible refine stop_load45 ?_) | (with_reducible refine stop_store45 ?_))
  refine C1.out.mono ?_
  rintro e w6b ⟨rfl, xr⟩
  replace d0 := Lib.hid (d0.out.ext xr)
  replace a0 := Lib.hid (a0.out.ext xr)
  replace l0 := Lib.hid (l0.out.ext xr)
  replace bw := Lib.hid (Ex.trans bw.out xr)
  clear C1 xr A9 PX a0
  go_wp2_with (first | (with_reducible refine Sm.stop_load59 ?_) | (with_reducible refine Sm.stop_store59 ?_) | (with_reducible refine stop_load45 ?_) | (with_reducible refine stop_store45 ?_))
  (with_reducible refine ⟨?_⟩); (with_reducible refine at_any ?_ ?_); (focus go_simp); refine fun K0 hK => Sm.wp_ld _ B C rfl rfl d0.out (hK _ _ ?_)
  clear hK
  go_wp2_with (first | (with_reducible refine Sm.stop_load59 ?_) | (with_reducible refine Sm.stop_store59 ?_) | (with_reducible refine stop_load45 ?_) | (with_reducible refine stop_store45 ?_))
  (with_reducible refine ⟨?_⟩); (with_reducible refine at_any ?_ ?_); (focus go_simp); refine fun K0 hK => wp_ld45g _ (B + 2) _ _ rfl rfl l0.out (hK _ _ ?_)
  clear hK
  have MK1 := Lib.hid (MK.out _ bw.out)
  clear MK
  go_wp2_with (first | (with_reducible refine Sm.stop_load59 ?_) | (with_reducible refine Sm.stop_store59 ?_) | (with_reducible refine stop_load45 ?_) | (with_reducible refine stop_store45 ?_))
  refine MK1.out.mono ?_
  rintro e w7 ⟨rfl, xr⟩
  replace d0 := Lib.hid (d0.out.ext xr)
  replace l0 := Lib.hid (l0.out.ext xr)
  replace bw := Lib.hid (Ex.trans bw.out xr)
  clear MK1 xr
  cases hr : rightB vl pl.l
  · have hm : markR C vl pl.l = List.replicate 16 0 := by unfold markR; rw [hr]; rfl
    rw [hr] at RL
    rw [hm]
    have RL := RL
    clear hr hm MR0
    go_wp2_with (first | (with_reducible refine Sm.stop_load59 ?_) | (with_reducible refine Sm.stop_store59 ?_) | (with_reducible refine stop_load45 ?_) | (with_reducible refine stop_store45 ?_))
    (with_reducible refine ⟨?_⟩); (with_reducible refine at_any ?_ ?_); (focus go_simp); refine fun K0 hK => Sm.wp_st _ _ w7.heap.size (List.replicate 16 0) rfl rfl rfl rfl (Sm.Bk.new rfl _ _) rfl (fun w8 hd ho => hK _ _ ?_)
    have xs : Ex w7 w8 := ho.below _ (Nat.le_refl _) _ ((Below.refl _ _).alloc (Nat.le_refl _) _)
    obtain ⟨g16, hg16⟩ : ∃ g, g = w7.heap.size := ⟨_, rfl⟩
    rw [← hg16] at hd ⊢
    have D9 := Lib.hid hd
    replace d0 := Lib.hid (d0.out.ext xs)
    replace l0 := Lib.hid (l0.out.ext xs)
    replace bw := Lib.hid (Ex.trans bw.out xs)
    clear hK ho hd xs hg16
    go_wp2_with (first | (with_reducible refine Sm.stop_load59 ?_) | (with_reducible refine Sm.stop_store59 ?_) | (with_reducible refine stop_load45 ?_) | (with_reducible refine stop_store45 ?_))
    obtain ⟨T, hT⟩ : ∃ T : List (Option Value), T = [some (.int .i64 cN), some (.int .i64 cN), some (.bool true), some (.bool true), some (.bool true), some (.bool true), some (.bool true), some (.bool true), some (.bool true), some (.int .i64 0), some (.int .i64 0), some (.bool true), some (.bool true), some (.bool true), some (.bool false), some (.agg #[.int .u64 vl, ml]), some (.bool false), some (.bool true), some (.bool true), some (.bool true), some (.bool false), some (.bool true), some (.bool true), some (digV (List.replicate 16 0)), some (digV (List.replicate 16 0)), some (.bool true), some (.bool true), some (.bool true), none, some (undef), none, none, none, none, none, none, some (.bool true), some (.bool true), some (.bool true)] := ⟨_, rfl⟩
    refine wp_region_gen (JL w8 T 1000 1001 0 #[] #[]) (by kernel_rfl) (by kernel_rfl) (by kernel_rfl) (fitB_spec (by kernel_rfl)) (fun listed f h => JL.start _ listed f h) ?_ ?_
    · intro i o ho
      have hi : i < 39 := (Array.getElem?_eq_some_iff.1 ho).1
      have hi' : i = 0 ∨ i = 1 ∨ i = 2 ∨ i = 3 ∨ i = 4 ∨ i = 5 ∨ i = 6 ∨ i = 7 ∨ i = 8 ∨ i = 9 ∨ i = 10 ∨ i = 11 ∨ i = 12 ∨ i = 13 ∨ i = 14 ∨ i = 15 ∨ i = 16 ∨ i = 17 ∨ i = 18 ∨ i = 19 ∨ i = 20 ∨ i = 21 ∨ i = 22 ∨ i = 23 ∨ i = 24 ∨ i = 25 ∨ i = 26 ∨ i = 27 ∨ i = 28 ∨ i = 29 ∨ i = 30 ∨ i = 31 ∨ i = 32 ∨ i = 33 ∨ i = 34 ∨ i = 35 ∨ i = 36 ∨ i = 37 ∨ i = 38 := by omega
      clear hi
      rcases hi' with rfl | rfl | rfl | rfl | rfl | rfl | rfl | rfl | rfl | rfl | rfl | rfl | rfl | rfl | rfl | rfl | rfl | rfl | rfl | rfl | rfl | rfl | rfl | rfl | rfl | rfl | rfl | rfl | rfl | rfl | rfl | rfl | rfl | rfl | rfl | rfl | rfl | rfl | rfl
      all_goals (simp only [List.getElem?_toArray, List.getElem?_cons_zero, List.getElem?_cons_succ, Option.some.injEq] at ho; subst ho; intro listed f a w9 hJ hsz hls hun hdep hout hlat)
      · rw [if_pos (by rfl)]
        intro K hK
        have q9 := hout 9 (outB_spec (by kernel_rfl))
        refine wp_mv _ rfl (hK _ _ ?_)
        rw [show a.eval (.tmp 9) = .int .i64 cN from q9]
        exact hJ.plain (by decide) (by decide) (Ex.refl _) (fun x hx => by rw [hT] at hx; first | exact Option.some.inj hx | simpa using hx)
      · rw [if_pos (by rfl)]
        intro K hK
        have q11 := hout 11 (outB_spec (by kernel_rfl))
        refine wp_mv _ rfl (hK _ _ ?_)
        rw [show a.eval (.tmp 11) = .int .i64 cN from q11]
        exact hJ.plain (by decide) (by decide) (Ex.refl _) (fun x hx => by rw [hT] at hx; first | exact Option.some.inj hx | simpa using hx)
      · rw [if_pos (by rfl)]
        intro K hK
        have q77 := (hdep ⟨0, .data⟩ (by simp) rfl).2 _ rfl _ rfl
        rw [show f 0 = _ from hJ.vals 0 (hdep ⟨0, .data⟩ (by simp) rfl).1 (.int .i64 cN) (by rw [hT]; rfl)] at q77
        have q78 := (hdep ⟨1, .data⟩ (by simp) rfl).2 _ rfl _ rfl
        rw [show f 1 = _ from hJ.vals 1 (hdep ⟨1, .data⟩ (by simp) rfl).1 (.int .i64 cN) (by rw [hT]; rfl)] at q78
        rw [Array.getD_eq_getD_getElem?] at q77
        rw [Array.getD_eq_getD_getElem?] at q78
        clear hsz hdep hout hlat
        go_simp
        exact hK _ _ (hJ.plain (by decide) (by decide) (Ex.refl _) (fun x hx => by rw [hT] at hx; first | exact Option.some.inj hx | simpa using hx))
      · rw [if_pos (by rfl)]
        intro K hK
        have q79 := (hdep ⟨2, .data⟩ (by simp) rfl).2 _ rfl _ rfl
        rw [show f 2 = _ from hJ.vals 2 (hdep ⟨2, .data⟩ (by simp) rfl).1 (.bool true) (by rw [hT]; rfl)] at q79
        refine wp_mv _ rfl (hK _ _ ?_)
        rw [show a.eval (.tmp 79) = .bool true from q79]
        exact hJ.plain (by decide) (by decide) (Ex.refl _) (fun x hx => by rw [hT] at hx; first | exact Option.some.inj hx | simpa using hx)
      · have kg := (hdep ⟨3, .guard⟩ (by simp) rfl).2 _ rfl _ rfl
        rw [show f 3 = _ from hJ.vals 3 (hdep ⟨3, .guard⟩ (by simp) rfl).1 (.bool true) (by rw [hT]; rfl)] at kg
        rw [if_pos (wanted_of rfl rfl rfl kg)]
        intro K hK
        have q10 := hout 10 (outB_spec (by kernel_rfl))
        refine wp_mv _ rfl (hK _ _ ?_)
        rw [show a.eval (.tmp 10) = .bool true from q10]
        exact hJ.plain (by decide) (by decide) (Ex.refl _) (fun x hx => by rw [hT] at hx; first | exact Option.some.inj hx | simpa using hx)
      · have kg := (hdep ⟨3, .guard⟩ (by simp) rfl).2 _ rfl _ rfl
        rw [show f 3 = _ from hJ.vals 3 (hdep ⟨3, .guard⟩ (by simp) rfl).1 (.bool true) (by rw [hT]; rfl)] at kg
        rw [if_pos (wanted_of rfl rfl rfl kg)]
        intro K hK
        have q12 := hout 12 (outB_spec (by kernel_rfl))
        refine wp_mv _ rfl (hK _ _ ?_)
        rw [show a.eval (.tmp 12) = .bool true from q12]
        exact hJ.plain (by decide) (by decide) (Ex.refl _) (fun x hx => by rw [hT] at hx; first | exact Option.some.inj hx | simpa using hx)
      · have kg := (hdep ⟨3, .guard⟩ (by simp) rfl).2 _ rfl _ rfl
        rw [show f 3 = _ from hJ.vals 3 (hdep ⟨3, .guard⟩ (by simp) rfl).1 (.bool true) (by rw [hT]; rfl)] at kg
        rw [if_pos (wanted_of rfl rfl rfl kg)]
        intro K hK
        have q81 := (hdep ⟨4, .data⟩ (by simp) rfl).2 _ rfl _ rfl
        rw [show f 4 = _ from hJ.vals 4 (hdep ⟨4, .data⟩ (by simp) rfl).1 (.bool true) (by rw [hT]; rfl)] at q81
        have q82 := (hdep ⟨5, .data⟩ (by simp) rfl).2 _ rfl _ rfl
        rw [show f 5 = _ from hJ.vals 5 (hdep ⟨5, .data⟩ (by simp) rfl).1 (.bool true) (by rw [hT]; rfl)] at q82
        rw [Array.getD_eq_getD_getElem?] at q81
        rw [Array.getD_eq_getD_getElem?] at q82
        clear hsz hdep hout hlat
        go_simp
        exact hK _ _ (hJ.plain (by decide) (by decide) (Ex.refl _) (fun x hx => by rw [hT] at hx; first | exact Option.some.inj hx | simpa using hx))
      · rw [if_pos (by rfl)]
        intro K hK
        have q80 := (hdep ⟨3, .data⟩ (by simp) rfl).2 _ rfl _ rfl
        rw [show f 3 = _ from hJ.vals 3 (hdep ⟨3, .data⟩ (by simp) rfl).1 (.bool true) (by rw [hT]; rfl)] at q80
        have q83 := (hdep ⟨6, .data⟩ (by simp) rfl).2 _ rfl _ rfl
        rw [show f 6 = _ from hJ.vals 6 (hdep ⟨6, .data⟩ (by simp) rfl).1 (.bool true) (by rw [hT]; rfl)] at q83
        rw [Array.getD_eq_getD_getElem?] at q80
        rw [Array.getD_eq_getD_getElem?] at q83
        clear hsz hdep hout hlat
        go_simp
        exact hK _ _ (hJ.plain (by decide) (by decide) (Ex.refl _) (fun x hx => by rw [hT] at hx; first | exact Option.some.inj hx | simpa using hx))
      · rw [if_pos (by rfl)]
        intro K hK
        have q84 := (hdep ⟨7, .data⟩ (by simp) rfl).2 _ rfl _ rfl
        rw [show f 7 = _ from hJ.vals 7 (hdep ⟨7, .data⟩ (by simp) rfl).1 (.bool true) (by rw [hT]; rfl)] at q84
        refine wp_mv _ rfl (hK _ _ ?_)
        rw [show a.eval (.tmp 84) = .bool true from q84]
        exact hJ.plain (by decide) (by decide) (Ex.refl _) (fun x hx => by rw [hT] at hx; first | exact Option.some.inj hx | simpa using hx)
      · have kg := (hdep ⟨8, .guard⟩ (by simp) rfl).2 _ rfl _ rfl
        rw [show f 8 = _ from hJ.vals 8 (hdep ⟨8, .guard⟩ (by simp) rfl).1 (.bool true) (by rw [hT]; rfl)] at kg
        rw [if_pos (wanted_of rfl rfl rfl kg)]
        intro K hK
        have q14 := hout 14 (outB_spec (by kernel_rfl))
        refine wp_mv _ rfl (hK _ _ ?_)
        rw [show a.eval (.tmp 14) = .int .i64 0 from q14]
        exact hJ.plain (by decide) (by decide) (Ex.refl _) (fun x hx => by rw [hT] at hx; first | exact Option.some.inj hx | simpa using hx)
      · have kg := (hdep ⟨8, .guard⟩ (by simp) rfl).2 _ rfl _ rfl
        rw [show f 8 = _ from hJ.vals 8 (hdep ⟨8, .guard⟩ (by simp) rfl).1 (.bool true) (by rw [hT]; rfl)] at kg
        rw [if_pos (wanted_of rfl rfl rfl kg)]
        intro K hK
        have q15 := hout 15 (outB_spec (by kernel_rfl))
        refine wp_mv _ rfl (hK _ _ ?_)
        rw [show a.eval (.tmp 15) = .int .i64 0 from q15]
        exact hJ.plain (by decide) (by decide) (Ex.refl _) (fun x hx => by rw [hT] at hx; first | exact Option.some.inj hx | simpa using hx)
      · have kg := (hdep ⟨8, .guard⟩ (by simp) rfl).2 _ rfl _ rfl
        rw [show f 8 = _ from hJ.vals 8 (hdep ⟨8, .guard⟩ (by simp) rfl).1 (.bool true) (by rw [hT]; rfl)] at kg
        rw [if_pos (wanted_of rfl rfl rfl kg)]
        intro K hK
        have q86 := (hdep ⟨9, .data⟩ (by simp) rfl).2 _ rfl _ rfl
        rw [show f 9 = _ from hJ.vals 9 (hdep ⟨9, .data⟩ (by simp) rfl).1 (.int .i64 0) (by rw [hT]; rfl)] at q86
        have q87 := (hdep ⟨10, .data⟩ (by simp) rfl).2 _ rfl _ rfl
        rw [show f 10 = _ from hJ.vals 10 (hdep ⟨10, .data⟩ (by simp) rfl).1 (.int .i64 0) (by rw [hT]; rfl)] at q87
        rw [Array.getD_eq_getD_getElem?] at q86
        rw [Array.getD_eq_getD_getElem?] at q87
        clear hsz hdep hout hlat
        go_simp
        exact hK _ _ (hJ.plain (by decide) (by decide) (Ex.refl _) (fun x hx => by rw [hT] at hx; first | exact Option.some.inj hx | simpa using hx))
      · rw [if_pos (by rfl)]
        intro K hK
        have q85 := (hdep ⟨8, .data⟩ (by simp) rfl).2 _ rfl _ rfl
        rw [show f 8 = _ from hJ.vals 8 (hdep ⟨8, .data⟩ (by simp) rfl).1 (.bool true) (by rw [hT]; rfl)] at q85
        have q88 := (hdep ⟨11, .data⟩ (by simp) rfl).2 _ rfl _ rfl
        rw [show f 11 = _ from hJ.vals 11 (hdep ⟨11, .data⟩ (by simp) rfl).1 (.bool true) (by rw [hT]; rfl)] at q88
        rw [Array.getD_eq_getD_getElem?] at q85
        rw [Array.getD_eq_getD_getElem?] at q88
        clear hsz hdep hout hlat
        go_simp
        exact hK _ _ (hJ.plain (by decide) (by decide) (Ex.refl _) (fun x hx => by rw [hT] at hx; first | exact Option.some.inj hx | simpa using hx))
      · rw [if_pos (by rfl)]
        intro K hK
        have q89 := (hdep ⟨12, .data⟩ (by simp) rfl).2 _ rfl _ rfl
        rw [show f 12 = _ from hJ.vals 12 (hdep ⟨12, .data⟩ (by simp) rfl).1 (.bool true) (by rw [hT]; rfl)] at q89
        refine wp_mv _ rfl (hK _ _ ?_)
        rw [show a.eval (.tmp 89) = .bool true from q89]
        exact hJ.plain (by decide) (by decide) (Ex.refl _) (fun x hx => by rw [hT] at hx; first | exact Option.some.inj hx | simpa using hx)
      · have kg := (hdep ⟨13, .guard⟩ (by simp) rfl).2 _ rfl _ rfl
        rw [show f 13 = _ from hJ.vals 13 (hdep ⟨13, .guard⟩ (by simp) rfl).1 (.bool true) (by rw [hT]; rfl)] at kg
        rw [if_pos (wanted_of rfl rfl rfl kg)]
        intro K hK
        have q17 := hout 17 (outB_spec (by kernel_rfl))
        refine wp_mv _ rfl (hK _ _ ?_)
        rw [show a.eval (.tmp 17) = .bool false from q17]
        exact hJ.plain (by decide) (by decide) (Ex.refl _) (fun x hx => by rw [hT] at hx; first | exact Option.some.inj hx | simpa using hx)
      · have kg := (hdep ⟨13, .guard⟩ (by simp) rfl).2 _ rfl _ rfl
        rw [show f 13 = _ from hJ.vals 13 (hdep ⟨13, .guard⟩ (by simp) rfl).1 (.bool true) (by rw [hT]; rfl)] at kg
        rw [if_pos (wanted_of rfl rfl rfl kg)]
        intro K hK
        have q6 := hout 6 (outB_spec (by kernel_rfl))
        refine wp_ld45g _ (B + 2) _ _ rfl q6 (l0.out.ext hJ.ext) (hK _ _ (hJ.plain (by decide) (by decide) (Ex.refl _) (fun x hx => by rw [hT] at hx; first | exact Option.some.inj hx | simpa using hx)))
      · have kg := (hdep ⟨13, .guard⟩ (by simp) rfl).2 _ rfl _ rfl
        rw [show f 13 = _ from hJ.vals 13 (hdep ⟨13, .guard⟩ (by simp) rfl).1 (.bool true) (by rw [hT]; rfl)] at kg
        rw [if_pos (wanted_of rfl rfl rfl kg)]
        intro K hK
        have q92 := (hdep ⟨15, .data⟩ (by simp) rfl).2 _ rfl _ rfl
        rw [show f 15 = _ from hJ.vals 15 (hdep ⟨15, .data⟩ (by simp) rfl).1 (.agg #[.int .u64 vl, ml]) (by rw [hT]; rfl)] at q92
        rw [Array.getD_eq_getD_getElem?] at q92
        have cm := Lib.hid (RL.out w9 (Ex.trans bw.out hJ.ext))
        clear hsz hdep hout hlat
        go_simp
        refine cm.out.mono ?_
        rintro e w3 ⟨rfl, xq⟩
        exact hK _ _ (hJ.plain (by decide) (by decide) xq (fun x hx => by rw [hT] at hx; first | exact Option.some.inj hx | simpa using hx))
      · have kg := (hdep ⟨13, .guard⟩ (by simp) rfl).2 _ rfl _ rfl
        rw [show f 13 = _ from hJ.vals 13 (hdep ⟨13, .guard⟩ (by simp) rfl).1 (.bool true) (by rw [hT]; rfl)] at kg
        rw [if_pos (wanted_of rfl rfl rfl kg)]
        intro K hK
        have q91 := (hdep ⟨14, .data⟩ (by simp) rfl).2 _ rfl _ rfl
        rw [show f 14 = _ from hJ.vals 14 (hdep ⟨14, .data⟩ (by simp) rfl).1 (.bool false) (by rw [hT]; rfl)] at q91
        have q93 := (hdep ⟨16, .data⟩ (by simp) rfl).2 _ rfl _ rfl
        rw [show f 16 = _ from hJ.vals 16 (hdep ⟨16, .data⟩ (by simp) rfl).1 (.bool false) (by rw [hT]; rfl)] at q93
        rw [Array.getD_eq_getD_getElem?] at q91
        rw [Array.getD_eq_getD_getElem?] at q93
        clear hsz hdep hout hlat
        go_simp
        exact hK _ _ (hJ.plain (by decide) (by decide) (Ex.refl _) (fun x hx => by rw [hT] at hx; first | exact Option.some.inj hx | simpa using hx))
      · rw [if_pos (by rfl)]
        intro K hK
        have q90 := (hdep ⟨13, .data⟩ (by simp) rfl).2 _ rfl _ rfl
        rw [show f 13 = _ from hJ.vals 13 (hdep ⟨13, .data⟩ (by simp) rfl).1 (.bool true) (by rw [hT]; rfl)] at q90
        have q94 := (hdep ⟨17, .data⟩ (by simp) rfl).2 _ rfl _ rfl
        rw [show f 17 = _ from hJ.vals 17 (hdep ⟨17, .data⟩ (by simp) rfl).1 (.bool true) (by rw [hT]; rfl)] at q94
        rw [Array.getD_eq_getD_getElem?] at q90
        rw [Array.getD_eq_getD_getElem?] at q94
        clear hsz hdep hout hlat
        go_simp
        exact hK _ _ (hJ.plain (by decide) (by decide) (Ex.refl _) (fun x hx => by rw [hT] at hx; first | exact Option.some.inj hx | simpa using hx))
      · rw [if_pos (by rfl)]
        intro K hK
        have q95 := (hdep ⟨18, .data⟩ (by simp) rfl).2 _ rfl _ rfl
        rw [show f 18 = _ from hJ.vals 18 (hdep ⟨18, .data⟩ (by simp) rfl).1 (.bool true) (by rw [hT]; rfl)] at q95
        refine wp_mv _ rfl (hK _ _ ?_)
        rw [show a.eval (.tmp 95) = .bool true from q95]
        exact hJ.plain (by decide) (by decide) (Ex.refl _) (fun x hx => by rw [hT] at hx; first | exact Option.some.inj hx | simpa using hx)
      · have kg := (hdep ⟨19, .guard⟩ (by simp) rfl).2 _ rfl _ rfl
        rw [show f 19 = _ from hJ.vals 19 (hdep ⟨19, .guard⟩ (by simp) rfl).1 (.bool true) (by rw [hT]; rfl)] at kg
        rw [if_pos (wanted_of rfl rfl rfl kg)]
        intro K hK
        have q17 := hout 17 (outB_spec (by kernel_rfl))
        refine wp_mv _ rfl (hK _ _ ?_)
        rw [show a.eval (.tmp 17) = .bool false from q17]
        exact hJ.plain (by decide) (by decide) (Ex.refl _) (fun x hx => by rw [hT] at hx; first | exact Option.some.inj hx | simpa using hx)
      · have kg := (hdep ⟨19, .guard⟩ (by simp) rfl).2 _ rfl _ rfl
        rw [show f 19 = _ from hJ.vals 19 (hdep ⟨19, .guard⟩ (by simp) rfl).1 (.bool true) (by rw [hT]; rfl)] at kg
        rw [if_pos (wanted_of rfl rfl rfl kg)]
        intro K hK
        have q97 := (hdep ⟨20, .data⟩ (by simp) rfl).2 _ rfl _ rfl
        rw [show f 20 = _ from hJ.vals 20 (hdep ⟨20, .data⟩ (by simp) rfl).1 (.bool false) (by rw [hT]; rfl)] at q97
        rw [Array.getD_eq_getD_getElem?] at q97
        clear hsz hdep hout hlat
        go_simp
        exact hK _ _ (hJ.plain (by decide) (by decide) (Ex.refl _) (fun x hx => by rw [hT] at hx; first | exact Option.some.inj hx | simpa using hx))
      · have kg := (hdep ⟨19, .guard⟩ (by simp) rfl).2 _ rfl _ rfl
        rw [show f 19 = _ from hJ.vals 19 (hdep ⟨19, .guard⟩ (by simp) rfl).1 (.bool true) (by rw [hT]; rfl)] at kg
        rw [if_pos (wanted_of rfl rfl rfl kg)]
        intro K hK
        have q98 := (hdep ⟨21, .data⟩ (by simp) rfl).2 _ rfl _ rfl
        rw [show f 21 = _ from hJ.vals 21 (hdep ⟨21, .data⟩ (by simp) rfl).1 (.bool true) (by rw [hT]; rfl)] at q98
        refine wp_mv _ rfl (hK _ _ ?_)
        rw [show a.eval (.tmp 98) = .bool true from q98]
        exact hJ.plain (by decide) (by decide) (Ex.refl _) (fun x hx => by rw [hT] at hx; first | exact Option.some.inj hx | simpa using hx)
      · have kg := (hdep ⟨22, .guard⟩ (by simp) rfl).2 _ rfl _ rfl
        rw [show f 22 = _ from hJ.vals 22 (hdep ⟨22, .guard⟩ (by simp) rfl).1 (.bool true) (by rw [hT]; rfl)] at kg
        rw [if_pos (wanted_of rfl rfl rfl kg)]
        intro K hK
        have q16 := hout 16 (outB_spec (by kernel_rfl))
        exact Sm.wp_ld _ g16 (List.replicate 16 0) rfl q16 (DB.ext D9.out hJ.ext) (hK _ _ (hJ.plain (by decide) (by decide) (Ex.refl _) (fun x hx => by rw [hT] at hx; first | exact Option.some.inj hx | simpa using hx)))
      · have kg := (hdep ⟨22, .guard⟩ (by simp) rfl).2 _ rfl _ rfl
        rw [show f 22 = _ from hJ.vals 22 (hdep ⟨22, .guard⟩ (by simp) rfl).1 (.bool true) (by rw [hT]; rfl)] at kg
        rw [if_pos (wanted_of rfl rfl rfl kg)]
        intro K hK
        clear hsz hdep hout hlat
        go_simp
        exact hK _ _ (hJ.plain (by decide) (by decide) (Ex.refl _) (fun x hx => by rw [hT] at hx; have := Option.some.inj hx; rw [← this]; rfl))
      · have kg := (hdep ⟨22, .guard⟩ (by simp) rfl).2 _ rfl _ rfl
        rw [show f 22 = _ from hJ.vals 22 (hdep ⟨22, .guard⟩ (by simp) rfl).1 (.bool true) (by rw [hT]; rfl)] at kg
        rw [if_pos (wanted_of rfl rfl rfl kg)]
        intro K hK
        have q100 := (hdep ⟨23, .data⟩ (by simp) rfl).2 _ rfl _ rfl
        rw [show f 23 = _ from hJ.vals 23 (hdep ⟨23, .data⟩ (by simp) rfl).1 (digV (List.replicate 16 0)) (by rw [hT]; rfl)] at q100
        have q101 := (hdep ⟨24, .data⟩ (by simp) rfl).2 _ rfl _ rfl
        rw [show f 24 = _ from hJ.vals 24 (hdep ⟨24, .data⟩ (by simp) rfl).1 (digV (List.replicate 16 0)) (by rw [hT]; rfl)] at q101
        refine Sm.wp_eql_dig _ _ _ rfl (List.replicate 16 0) (List.replicate 16 0) rfl rfl q100 q101 ?_
        rw [decide_eq_true rfl]
        exact hK _ _ (hJ.plain (by decide) (by decide) (Ex.refl _) (fun x hx => by rw [hT] at hx; first | exact Option.some.inj hx | simpa using hx))
      · have kg := (hdep ⟨19, .guard⟩ (by simp) rfl).2 _ rfl _ rfl
        rw [show f 19 = _ from hJ.vals 19 (hdep ⟨19, .guard⟩ (by simp) rfl).1 (.bool true) (by rw [hT]; rfl)] at kg
        rw [if_pos (wanted_of rfl rfl rfl kg)]
        intro K hK
        have q99 := (hdep ⟨22, .data⟩ (by simp) rfl).2 _ rfl _ rfl
        rw [show f 22 = _ from hJ.vals 22 (hdep ⟨22, .data⟩ (by simp) rfl).1 (.bool true) (by rw [hT]; rfl)] at q99
        have q102 := (hdep ⟨25, .data⟩ (by simp) rfl).2 _ rfl _ rfl
        rw [show f 25 = _ from hJ.vals 25 (hdep ⟨25, .data⟩ (by simp) rfl).1 (.bool true) (by rw [hT]; rfl)] at q102
        rw [Array.getD_eq_getD_getElem?] at q99
        rw [Array.getD_eq_getD_getElem?] at q102
        clear hsz hdep hout hlat
        go_simp
        exact hK _ _ (hJ.plain (by decide) (by decide) (Ex.refl _) (fun x hx => by rw [hT] at hx; first | exact Option.some.inj hx | simpa using hx))
      · have kg := (hdep ⟨19, .guard⟩ (by simp) rfl).2 _ rfl _ rfl
        rw [show f 19 = _ from hJ.vals 19 (hdep ⟨19, .guard⟩ (by simp) rfl).1 (.bool true) (by rw [hT]; rfl)] at kg
        rw [if_pos (wanted_of rfl rfl rfl kg)]
        intro K hK
        have q103 := (hdep ⟨26, .data⟩ (by simp) rfl).2 _ rfl _ rfl
        rw [show f 26 = _ from hJ.vals 26 (hdep ⟨26, .data⟩ (by simp) rfl).1 (.bool true) (by rw [hT]; rfl)] at q103
        refine wp_mv _ rfl (hK _ _ ?_)
        rw [show a.eval (.tmp 103) = .bool true from q103]
        exact hJ.plain (by decide) (by decide) (Ex.refl _) (fun x hx => by rw [hT] at hx; first | exact Option.some.inj hx | simpa using hx)
      · have kg := (hdep ⟨27, .guard⟩ (by simp) rfl).2 _ rfl _ rfl
        rw [show f 27 = _ from hJ.vals 27 (hdep ⟨27, .guard⟩ (by simp) rfl).1 (.bool true) (by rw [hT]; rfl)] at kg
        rw [if_neg (not_wanted rfl rfl rfl kg (by decide))]
        exact hJ.plain (by decide) (by decide) (Ex.refl _) (fun x hx => by rw [hT] at hx; change none = some x at hx; cases hx)
      · have kg := (hdep ⟨27, .guard⟩ (by simp) rfl).2 _ rfl _ rfl
        rw [show f 27 = _ from hJ.vals 27 (hdep ⟨27, .guard⟩ (by simp) rfl).1 (.bool true) (by rw [hT]; rfl)] at kg
        rw [if_neg (not_wanted rfl rfl rfl kg (by decide))]
        exact hJ.plain (by decide) (by decide) (Ex.refl _) (fun x hx => by rw [hT] at hx; first | exact Option.some.inj hx | simpa using hx)
      · have kg := (hdep ⟨29, .guard⟩ (by simp) rfl).2 _ rfl _ rfl
        rw [show f 29 = _ from hJ.vals 29 (hdep ⟨29, .guard⟩ (by simp) rfl).1 (undef) (by rw [hT]; rfl)] at kg
        rw [if_neg (not_wanted_x rfl rfl rfl kg (by simp [undef]))]
        exact hJ.plain (by decide) (by decide) (Ex.refl _) (fun x hx => by rw [hT] at hx; change none = some x at hx; cases hx)
      · have kg := (hdep ⟨29, .guard⟩ (by simp) rfl).2 _ rfl _ rfl
        rw [show f 29 = _ from hJ.vals 29 (hdep ⟨29, .guard⟩ (by simp) rfl).1 (undef) (by rw [hT]; rfl)] at kg
        rw [if_neg (not_wanted_x rfl rfl rfl kg (by simp [undef]))]
        exact hJ.plain (by decide) (by decide) (Ex.refl _) (fun x hx => by rw [hT] at hx; change none = some x at hx; cases hx)
      · have kg := (hdep ⟨29, .guard⟩ (by simp) rfl).2 _ rfl _ rfl
        rw [show f 29 = _ from hJ.vals 29 (hdep ⟨29, .guard⟩ (by simp) rfl).1 (undef) (by rw [hT]; rfl)] at kg
        rw [if_neg (not_wanted_x rfl rfl rfl kg (by simp [undef]))]
        exact hJ.plain (by decide) (by decide) (Ex.refl _) (fun x hx => by rw [hT] at hx; change none = some x at hx; cases hx)
      · have kg := (hdep ⟨29, .guard⟩ (by simp) rfl).2 _ rfl _ rfl
        rw [show f 29 = _ from hJ.vals 29 (hdep ⟨29, .guard⟩ (by simp) rfl).1 (undef) (by rw [hT]; rfl)] at kg
        rw [if_neg (not_wanted_x rfl rfl rfl kg (by simp [undef]))]
        exact hJ.plain (by decide) (by decide) (Ex.refl _) (fun x hx => by rw [hT] at hx; change none = some x at hx; cases hx)
      · have kg := (hdep ⟨29, .guard⟩ (by simp) rfl).2 _ rfl _ rfl
        rw [show f 29 = _ from hJ.vals 29 (hdep ⟨29, .guard⟩ (by simp) rfl).1 (undef) (by rw [hT]; rfl)] at kg
        rw [if_neg (not_wanted_x rfl rfl rfl kg (by simp [undef]))]
        exact hJ.plain (by decide) (by decide) (Ex.refl _) (fun x hx => by rw [hT] at hx; change none = some x at hx; cases hx)
      · have kg := (hdep ⟨27, .guard⟩ (by simp) rfl).2 _ rfl _ rfl
        rw [show f 27 = _ from hJ.vals 27 (hdep ⟨27, .guard⟩ (by simp) rfl).1 (.bool true) (by rw [hT]; rfl)] at kg
        rw [if_neg (not_wanted rfl rfl rfl kg (by decide))]
        exact hJ.plain (by decide) (by decide) (Ex.refl _) (fun x hx => by rw [hT] at hx; change none = some x at hx; cases hx)
      · have kg := (hdep ⟨19, .guard⟩ (by simp) rfl).2 _ rfl _ rfl
        rw [show f 19 = _ from hJ.vals 19 (hdep ⟨19, .guard⟩ (by simp) rfl).1 (.bool true) (by rw [hT]; rfl)] at kg
        rw [if_pos (wanted_of rfl rfl rfl kg)]
        intro K hK
        have q104 := (hdep ⟨27, .data⟩ (by simp) rfl).2 _ rfl _ rfl
        rw [show f 27 = _ from hJ.vals 27 (hdep ⟨27, .data⟩ (by simp) rfl).1 (.bool true) (by rw [hT]; rfl)] at q104
        have q112 := (hdep ⟨35, .data⟩ (by simp) rfl).2 _ rfl _ rfl
        rw [Array.getD_eq_getD_getElem?] at q104
        rw [Array.getD_eq_getD_getElem?] at q112
        clear hsz hdep hout hlat
        go_simp
        exact hK _ _ (hJ.plain (by decide) (by decide) (Ex.refl _) (fun x hx => by rw [hT] at hx; first | exact Option.some.inj hx | simpa using hx))
      · rw [if_pos (by rfl)]
        intro K hK
        have q96 := (hdep ⟨19, .data⟩ (by simp) rfl).2 _ rfl _ rfl
        rw [show f 19 = _ from hJ.vals 19 (hdep ⟨19, .data⟩ (by simp) rfl).1 (.bool true) (by rw [hT]; rfl)] at q96
        have q113 := (hdep ⟨36, .data⟩ (by simp) rfl).2 _ rfl _ rfl
        rw [show f 36 = _ from hJ.vals 36 (hdep ⟨36, .data⟩ (by simp) rfl).1 (.bool true) (by rw [hT]; rfl)] at q113
        rw [Array.getD_eq_getD_getElem?] at q96
        rw [Array.getD_eq_getD_getElem?] at q113
        clear hsz hdep hout hlat
        go_simp
        exact hK _ _ (hJ.plain (by decide) (by decide) (Ex.refl _) (fun x hx => by rw [hT] at hx; first | exact Option.some.inj hx | simpa using hx))
      · rw [if_pos (by rfl)]
        intro K hK
        have q114 := (hdep ⟨37, .data⟩ (by simp) rfl).2 _ rfl _ rfl
        rw [show f 37 = _ from hJ.vals 37 (hdep ⟨37, .data⟩ (by simp) rfl).1 (.bool true) (by rw [hT]; rfl)] at q114
        rw [Array.getD_eq_getD_getElem?] at q114
        clear hsz hdep hout hlat
        go_simp
        exact hK _ _ (hJ.plain (by decide) (by decide) (Ex.refl _) (fun x hx => by rw [hT] at hx; first | exact Option.some.inj hx | simpa using hx))
    · intro listed f w9 hall hJ
      have f0 : f 0 = .int .i64 cN := hJ.vals 0 (hall 0 (by simp)) _ (by rw [hT]; rfl)
      have f1 : f 1 = .int .i64 cN := hJ.vals 1 (hall 1 (by simp)) _ (by rw [hT]; rfl)
      have f2 : f 2 = .bool true := hJ.vals 2 (hall 2 (by simp)) _ (by rw [hT]; rfl)
      have f3 : f 3 = .bool true := hJ.vals 3 (hall 3 (by simp)) _ (by rw [hT]; rfl)
      have f4 : f 4 = .bool true := hJ.vals 4 (hall 4 (by simp)) _ (by rw [hT]; rfl)
      have f5 : f 5 = .bool true := hJ.vals 5 (hall 5 (by simp)) _ (by rw [hT]; rfl)
      have f6 : f 6 = .bool true := hJ.vals 6 (hall 6 (by simp)) _ (by rw [hT]; rfl)
      have f7 : f 7 = .bool true := hJ.vals 7 (hall 7 (by simp)) _ (by rw [hT]; rfl)
      have f8 : f 8 = .bool true := hJ.vals 8 (hall 8 (by simp)) _ (by rw [hT]; rfl)
      have f9 : f 9 = .int .i64 0 := hJ.vals 9 (hall 9 (by simp)) _ (by rw [hT]; rfl)
      have f10 : f 10 = .int .i64 0 := hJ.vals 10 (hall 10 (by simp)) _ (by rw [hT]; rfl)
      have f11 : f 11 = .bool true := hJ.vals 11 (hall 11 (by simp)) _ (by rw [hT]; rfl)
      have f12 : f 12 = .bool true := hJ.vals 12 (hall 12 (by simp)) _ (by rw [hT]; rfl)
      have f13 : f 13 = .bool true := hJ.vals 13 (hall 13 (by simp)) _ (by rw [hT]; rfl)
      have f14 : f 14 = .bool false := hJ.vals 14 (hall 14 (by simp)) _ (by rw [hT]; rfl)
      have f15 : f 15 = .agg #[.int .u64 vl, ml] := hJ.vals 15 (hall 15 (by simp)) _ (by rw [hT]; rfl)
      have f16 : f 16 = .bool false := hJ.vals 16 (hall 16 (by simp)) _ (by rw [hT]; rfl)
      have f17 : f 17 = .bool true := hJ.vals 17 (hall 17 (by simp)) _ (by rw [hT]; rfl)
      have f18 : f 18 = .bool true := hJ.vals 18 (hall 18 (by simp)) _ (by rw [hT]; rfl)
      have f19 : f 19 = .bool true := hJ.vals 19 (hall 19 (by simp)) _ (by rw [hT]; rfl)
      have f20 : f 20 = .bool false := hJ.vals 20 (hall 20 (by simp)) _ (by rw [hT]; rfl)
      have f21 : f 21 = .bool true := hJ.vals 21 (hall 21 (by simp)) _ (by rw [hT]; rfl)
      have f22 : f 22 = .bool true := hJ.vals 22 (hall 22 (by simp)) _ (by rw [hT]; rfl)
      have f23 : f 23 = digV (List.replicate 16 0) := hJ.vals 23 (hall 23 (by simp)) _ (by rw [hT]; rfl)
      have f24 : f 24 = digV (List.replicate 16 0) := hJ.vals 24 (hall 24 (by simp)) _ (by rw [hT]; rfl)
      have f25 : f 25 = .bool true := hJ.vals 25 (hall 25 (by simp)) _ (by rw [hT]; rfl)
      have f26 : f 26 = .bool true := hJ.vals 26 (hall 26 (by simp)) _ (by rw [hT]; rfl)
      have f27 : f 27 = .bool true := hJ.vals 27 (hall 27 (by simp)) _ (by rw [hT]; rfl)
      have f29 : f 29 = undef := hJ.vals 29 (hall 29 (by simp)) _ (by rw [hT]; rfl)
      have f36 : f 36 = .bool true := hJ.vals 36 (hall 36 (by simp)) _ (by rw [hT]; rfl)
      have f37 : f 37 = .bool true := hJ.vals 37 (hall 37 (by simp)) _ (by rw [hT]; rfl)
      have f38 : f 38 = .bool true := hJ.vals 38 (hall 38 (by simp)) _ (by rw [hT]; rfl)
      have xw := hJ.ext
      simp only [putAll, Act.put, List.setIfInBounds_toArray, List.set_cons_zero, List.set_cons_succ, Nat.zero_add, Nat.reduceAdd]
      rw [f0, f1, f2, f3, f4, f5, f6, f7, f8, f9, f10, f11, f12, f13, f14, f15, f16, f17, f18, f19, f20, f21, f22, f23, f24, f25, f26, f27, f29, f36, f37, f38]
      clear f0 f1 f2 f3 f4 f5 f6 f7 f8 f9 f10 f11 f12 f13 f14 f15 f16 f17 f18 f19 f20 f21 f22 f23 f24 f25 f26 f27 f29 f36 f37 f38 hJ hall hT
      generalize f 28 = y28
      generalize f 30 = y30
      generalize f 31 = y31
      generalize f 32 = y32
      generalize f 33 = y33
      generalize f 34 = y34
      generalize f 35 = y35
      replace bw := Lib.hid (Ex.trans bw.out xw)
      clear xw
      go_wp2_with (first | (with_reducible refine Sm.stop_load59 ?_) | (with_reducible refine Sm.stop_store59 ?_) | (with_reducible refine stop_load45 ?_) | (with_reducible refine stop_store45 ?_))
      go_ret
      exact ⟨rfl, bw.out⟩
  · have hm : markR C vl pl.l = markL C vl pl.l := by unfold markR; rw [hr]; rfl
    rw [hr] at RL
    rw [hm]
    have RL := RL
    have MR := Lib.hid (MR0.out hr)
    clear hr hm MR0
    go_wp2_with (first | (with_reducible refine Sm.stop_load59 ?_) | (with_reducible refine Sm.stop_store59 ?_) | (with_reducible refine stop_load45 ?_) | (with_reducible refine stop_store45 ?_))
    (with_reducible refine ⟨?_⟩); (with_reducible refine at_any ?_ ?_); (focus go_simp); refine fun K0 hK => Sm.wp_st _ _ w7.heap.size (markL C vl pl.l) rfl rfl rfl rfl (Sm.Bk.new rfl _ _) rfl (fun w8 hd ho => hK _ _ ?_)
    have xs : Ex w7 w8 := ho.below _ (Nat.le_refl _) _ ((Below.refl _ _).alloc (Nat.le_refl _) _)
    obtain ⟨g16, hg16⟩ : ∃ g, g = w7.heap.size := ⟨_, rfl⟩
    rw [← hg16] at hd ⊢
    have D9 := Lib.hid hd
    replace d0 := Lib.hid (d0.out.ext xs)
    replace l0 := Lib.hid (l0.out.ext xs)
    replace bw := Lib.hid (Ex.trans bw.out xs)
    clear hK ho hd xs hg16
    go_wp2_with (first | (with_reducible refine Sm.stop_load59 ?_) | (with_reducible refine Sm.stop_store59 ?_) | (with_reducible refine stop_load45 ?_) | (with_reducible refine stop_store45 ?_))
    obtain ⟨T, hT⟩ : ∃ T : List (Option Value), T = [some (.int .i64 cN), some (.int .i64 cN), some (.bool true), some (.bool true), some (.bool true), some (.bool true), some (.bool true), some (.bool true), some (.bool true), some (.int .i64 0), some (.int .i64 0), some (.bool true), some (.bool true), some (.bool true), some (.bool true), some (.agg #[.int .u64 vl, ml]), some (.bool true), some (.bool true), some (.bool true), some (.bool true), some (.bool true), some (.bool false), some (.bool false), none, none, none, some (.bool false), some (.bool false), some (.bool true), some (.bool true), some (digV (markL C vl pl.l)), some (digV C), some (.agg #[.int .u64 vl, ml]), some (digV (markL C vl pl.l)), some (.bool true), some (.bool true), some (.bool true), some (.bool true), some (.bool true)] := ⟨_, rfl⟩
    refine wp_region_gen (JL w8 T 1000 1001 0 #[] #[]) (by kernel_rfl) (by kernel_rfl) (by kernel_rfl) (fitB_spec (by kernel_rfl)) (fun listed f h => JL.start _ listed f h) ?_ ?_
    · intro i o ho
      have hi : i < 39 := (Array.getElem?_eq_some_iff.1 ho).1
      have hi' : i = 0 ∨ i = 1 ∨ i = 2 ∨ i = 3 ∨ i = 4 ∨ i = 5 ∨ i = 6 ∨ i = 7 ∨ i = 8 ∨ i = 9 ∨ i = 10 ∨ i = 11 ∨ i = 12 ∨ i = 13 ∨ i = 14 ∨ i = 15 ∨ i = 16 ∨ i = 17 ∨ i = 18 ∨ i = 19 ∨ i = 20 ∨ i = 21 ∨ i = 22 ∨ i = 23 ∨ i = 24 ∨ i = 25 ∨ i = 26 ∨ i = 27 ∨ i = 28 ∨ i = 29 ∨ i = 30 ∨ i = 31 ∨ i = 32 ∨ i = 33 ∨ i = 34 ∨ i = 35 ∨ i = 36 ∨ i = 37 ∨ i = 38 := by omega
      clear hi
      rcases hi' with rfl | rfl | rfl | rfl | rfl | rfl | rfl | rfl | rfl | rfl | rfl | rfl | rfl | rfl | rfl | rfl | rfl | rfl | rfl | rfl | rfl | rfl | rfl | rfl | rfl | rfl | rfl | rfl | rfl | rfl | rfl | rfl | rfl | rfl | rfl | rfl | rfl | rfl | rfl
      all_goals (simp only [List.getElem?_toArray, List.getElem?_cons_zero, List.getElem?_cons_succ, Option.some.injEq] at ho; subst ho; intro listed f a w9 hJ hsz hls hun hdep hout hlat)
      · rw [if_pos (by rfl)]
        intro K hK
        have q9 := hout 9 (outB_spec (by kernel_rfl))
        refine wp_mv _ rfl (hK _ _ ?_)
        rw [show a.eval (.tmp 9) = .int .i64 cN from q9]
        exact hJ.plain (by decide) (by decide) (Ex.refl _) (fun x hx => by rw [hT] at hx; first | exact Option.some.inj hx | simpa using hx)
      · rw [if_pos (by rfl)]
        intro K hK
        have q11 := hout 11 (outB_spec (by kernel_rfl))
        refine wp_mv _ rfl (hK _ _ ?_)
        rw [show a.eval (.tmp 11) = .int .i64 cN from q11]
        exact hJ.plain (by decide) (by decide) (Ex.refl _) (fun x hx => by rw [hT] at hx; first | exact Option.some.inj hx | simpa using hx)
      · rw [if_pos (by rfl)]
        intro K hK
        have q77 := (hdep ⟨0, .data⟩ (by simp) rfl).2 _ rfl _ rfl
        rw [show f 0 = _ from hJ.vals 0 (hdep ⟨0, .data⟩ (by simp) rfl).1 (.int .i64 cN) (by rw [hT]; rfl)] at q77
        have q78 := (hdep ⟨1, .data⟩ (by simp) rfl).2 _ rfl _ rfl
        rw [show f 1 = _ from hJ.vals 1 (hdep ⟨1, .data⟩ (by simp) rfl).1 (.int .i64 cN) (by rw [hT]; rfl)] at q78
        rw [Array.getD_eq_getD_getElem?] at q77
        rw [Array.getD_eq_getD_getElem?] at q78
        clear hsz hdep hout hlat
        go_simp
        exact hK _ _ (hJ.plain (by decide) (by decide) (Ex.refl _) (fun x hx => by rw [hT] at hx; first | exact Option.some.inj hx | simpa using hx))
      · rw [if_pos (by rfl)]
        intro K hK
        have q79 := (hdep ⟨2, .data⟩ (by simp) rfl).2 _ rfl _ rfl
        rw [show f 2 = _ from hJ.vals 2 (hdep ⟨2, .data⟩ (by simp) rfl).1 (.bool true) (by rw [hT]; rfl)] at q79
        refine wp_mv _ rfl (hK _ _ ?_)
        rw [show a.eval (.tmp 79) = .bool true from q79]
        exact hJ.plain (by decide) (by decide) (Ex.refl _) (fun x hx => by rw [hT] at hx; first | exact Option.some.inj hx | simpa using hx)
      · have kg := (hdep ⟨3, .guard⟩ (by simp) rfl).2 _ rfl _ rfl
        rw [show f 3 = _ from hJ.vals 3 (hdep ⟨3, .guard⟩ (by simp) rfl).1 (.bool true) (by rw [hT]; rfl)] at kg
        rw [if_pos (wanted_of rfl rfl rfl kg)]
        intro K hK
        have q10 := hout 10 (outB_spec (by kernel_rfl))
        refine wp_mv _ rfl (hK _ _ ?_)
        rw [show a.eval (.tmp 10) = .bool true from q10]
        exact hJ.plain (by decide) (by decide) (Ex.refl _) (fun x hx => by rw [hT] at hx; first | exact Option.some.inj hx | simpa using hx)
      · have kg := (hdep ⟨3, .guard⟩ (by simp) rfl).2 _ rfl _ rfl
        rw [show f 3 = _ from hJ.vals 3 (hdep ⟨3, .guard⟩ (by simp) rfl).1 (.bool true) (by rw [hT]; rfl)] at kg
        rw [if_pos (wanted_of rfl rfl rfl kg)]
        intro K hK
        have q12 := hout 12 (outB_spec (by kernel_rfl))
        refine wp_mv _ rfl (hK _ _ ?_)
        rw [show a.eval (.tmp 12) = .bool true from q12]
        exact hJ.plain (by decide) (by decide) (Ex.refl _) (fun x hx => by rw [hT] at hx; first | exact Option.some.inj hx | simpa using hx)
      · have kg := (hdep ⟨3, .guard⟩ (by simp) rfl).2 _ rfl _ rfl
        rw [show f 3 = _ from hJ.vals 3 (hdep ⟨3, .guard⟩ (by simp) rfl).1 (.bool true) (by rw [hT]; rfl)] at kg
        rw [if_pos (wanted_of rfl rfl rfl kg)]
        intro K hK
        have q81 := (hdep ⟨4, .data⟩ (by simp) rfl).2 _ rfl _ rfl
        rw [show f 4 = _ from hJ.vals 4 (hdep ⟨4, .data⟩ (by simp) rfl).1 (.bool true) (by rw [hT]; rfl)] at q81
        have q82 := (hdep ⟨5, .data⟩ (by simp) rfl).2 _ rfl _ rfl
        rw [show f 5 = _ from hJ.vals 5 (hdep ⟨5, .data⟩ (by simp) rfl).1 (.bool true) (by rw [hT]; rfl)] at q82
        rw [Array.getD_eq_getD_getElem?] at q81
        rw [Array.getD_eq_getD_getElem?] at q82
        clear hsz hdep hout hlat
        go_simp
        exact hK _ _ (hJ.plain (by decide) (by decide) (Ex.refl _) (fun x hx => by rw [hT] at hx; first | exact Option.some.inj hx | simpa using hx))
      · rw [if_pos (by rfl)]
        intro K hK
        have q80 := (hdep ⟨3, .data⟩ (by simp) rfl).2 _ rfl _ rfl
        rw [show f 3 = _ from hJ.vals 3 (hdep ⟨3, .data⟩ (by simp) rfl).1 (.bool true) (by rw [hT]; rfl)] at q80
        have q83 := (hdep ⟨6, .data⟩ (by simp) rfl).2 _ rfl _ rfl
        rw [show f 6 = _ from hJ.vals 6 (hdep ⟨6, .data⟩ (by simp) rfl).1 (.bool true) (by rw [hT]; rfl)] at q83
        rw [Array.getD_eq_getD_getElem?] at q80
        rw [Array.getD_eq_getD_getElem?] at q83
        clear hsz hdep hout hlat
        go_simp
        exact hK _ _ (hJ.plain (by decide) (by decide) (Ex.refl _) (fun x hx => by rw [hT] at hx; first | exact Option.some.inj hx | simpa using hx))
      · rw [if_pos (by rfl)]
        intro K hK
        have q84 := (hdep ⟨7, .data⟩ (by simp) rfl).2 _ rfl _ rfl
        rw [show f 7 = _ from hJ.vals 7 (hdep ⟨7, .data⟩ (by simp) rfl).1 (.bool true) (by rw [hT]; rfl)] at q84
        refine wp_mv _ rfl (hK _ _ ?_)
        rw [show a.eval (.tmp 84) = .bool true from q84]
        exact hJ.plain (by decide) (by decide) (Ex.refl _) (fun x hx => by rw [hT] at hx; first | exact Option.some.inj hx | simpa using hx)
      · have kg := (hdep ⟨8, .guard⟩ (by simp) rfl).2 _ rfl _ rfl
        rw [show f 8 = _ from hJ.vals 8 (hdep ⟨8, .guard⟩ (by simp) rfl).1 (.bool true) (by rw [hT]; rfl)] at kg
        rw [if_pos (wanted_of rfl rfl rfl kg)]
        intro K hK
        have q14 := hout 14 (outB_spec (by kernel_rfl))
        refine wp_mv _ rfl (hK _ _ ?_)
        rw [show a.eval (.tmp 14) = .int .i64 0 from q14]
        exact hJ.plain (by decide) (by decide) (Ex.refl _) (fun x hx => by rw [hT] at hx; first | exact Option.some.inj hx | simpa using hx)
      · have kg := (hdep ⟨8, .guard⟩ (by simp) rfl).2 _ rfl _ rfl
        rw [show f 8 = _ from hJ.vals 8 (hdep ⟨8, .guard⟩ (by simp) rfl).1 (.bool true) (by rw [hT]; rfl)] at kg
        rw [if_pos (wanted_of rfl rfl rfl kg)]
        intro K hK
        have q15 := hout 15 (outB_spec (by kernel_rfl))
        refine wp_mv _ rfl (hK _ _ ?_)
        rw [show a.eval (.tmp 15) = .int .i64 0 from q15]
        exact hJ.plain (by decide) (by decide) (Ex.refl _) (fun x hx => by rw [hT] at hx; first | exact Option.some.inj hx | simpa using hx)
      · have kg := (hdep ⟨8, .guard⟩ (by simp) rfl).2 _ rfl _ rfl
        rw [show f 8 = _ from hJ.vals 8 (hdep ⟨8, .guard⟩ (by simp) rfl).1 (.bool true) (by rw [hT]; rfl)] at kg
        rw [if_pos (wanted_of rfl rfl rfl kg)]
        intro K hK
        have q86 := (hdep ⟨9, .data⟩ (by simp) rfl).2 _ rfl _ rfl
        rw [show f 9 = _ from hJ.vals 9 (hdep ⟨9, .data⟩ (by simp) rfl).1 (.int .i64 0) (by rw [hT]; rfl)] at q86
        have q87 := (hdep ⟨10, .data⟩ (by simp) rfl).2 _ rfl _ rfl
        rw [show f 10 = _ from hJ.vals 10 (hdep ⟨10, .data⟩ (by simp) rfl).1 (.int .i64 0) (by rw [hT]; rfl)] at q87
        rw [Array.getD_eq_getD_getElem?] at q86
        rw [Array.getD_eq_getD_getElem?] at q87
        clear hsz hdep hout hlat
        go_simp
        exact hK _ _ (hJ.plain (by decide) (by decide) (Ex.refl _) (fun x hx => by rw [hT] at hx; first | exact Option.some.inj hx | simpa using hx))
      · rw [if_pos (by rfl)]
        intro K hK
        have q85 := (hdep ⟨8, .data⟩ (by simp) rfl).2 _ rfl _ rfl
        rw [show f 8 = _ from hJ.vals 8 (hdep ⟨8, .data⟩ (by simp) rfl).1 (.bool true) (by rw [hT]; rfl)] at q85
        have q88 := (hdep ⟨11, .data⟩ (by simp) rfl).2 _ rfl _ rfl
        rw [show f 11 = _ from hJ.vals 11 (hdep ⟨11, .data⟩ (by simp) rfl).1 (.bool true) (by rw [hT]; rfl)] at q88
        rw [Array.getD_eq_getD_getElem?] at q85
        rw [Array.getD_eq_getD_getElem?] at q88
        clear hsz hdep hout hlat
        go_simp
        exact hK _ _ (hJ.plain (by decide) (by decide) (Ex.refl _) (fun x hx => by rw [hT] at hx; first | exact Option.some.inj hx | simpa using hx))
      · rw [if_pos (by rfl)]
        intro K hK
        have q89 := (hdep ⟨12, .data⟩ (by simp) rfl).2 _ rfl _ rfl
        rw [show f 12 = _ from hJ.vals 12 (hdep ⟨12, .data⟩ (by simp) rfl).1 (.bool true) (by rw [hT]; rfl)] at q89
        refine wp_mv _ rfl (hK _ _ ?_)
        rw [show a.eval (.tmp 89) = .bool true from q89]
        exact hJ.plain (by decide) (by decide) (Ex.refl _) (fun x hx => by rw [hT] at hx; first | exact Option.some.inj hx | simpa using hx)
      · have kg := (hdep ⟨13, .guard⟩ (by simp) rfl).2 _ rfl _ rfl
        rw [show f 13 = _ from hJ.vals 13 (hdep ⟨13, .guard⟩ (by simp) rfl).1 (.bool true) (by rw [hT]; rfl)] at kg
        rw [if_pos (wanted_of rfl rfl rfl kg)]
        intro K hK
        have q17 := hout 17 (outB_spec (by kernel_rfl))
        refine wp_mv _ rfl (hK _ _ ?_)
        rw [show a.eval (.tmp 17) = .bool true from q17]
        exact hJ.plain (by decide) (by decide) (Ex.refl _) (fun x hx => by rw [hT] at hx; first | exact Option.some.inj hx | simpa using hx)
      · have kg := (hdep ⟨13, .guard⟩ (by simp) rfl).2 _ rfl _ rfl
        rw [show f 13 = _ from hJ.vals 13 (hdep ⟨13, .guard⟩ (by simp) rfl).1 (.bool true) (by rw [hT]; rfl)] at kg
        rw [if_pos (wanted_of rfl rfl rfl kg)]
        intro K hK
        have q6 := hout 6 (outB_spec (by kernel_rfl))
        refine wp_ld45g _ (B + 2) _ _ rfl q6 (l0.out.ext hJ.ext) (hK _ _ (hJ.plain (by decide) (by decide) (Ex.refl _) (fun x hx => by rw [hT] at hx; first | exact Option.some.inj hx | simpa using hx)))
      · have kg := (hdep ⟨13, .guard⟩ (by simp) rfl).2 _ rfl _ rfl
        rw [show f 13 = _ from hJ.vals 13 (hdep ⟨13, .guard⟩ (by simp) rfl).1 (.bool true) (by rw [hT]; rfl)] at kg
        rw [if_pos (wanted_of rfl rfl rfl kg)]
        intro K hK
        have q92 := (hdep ⟨15, .data⟩ (by simp) rfl).2 _ rfl _ rfl
        rw [show f 15 = _ from hJ.vals 15 (hdep ⟨15, .data⟩ (by simp) rfl).1 (.agg #[.int .u64 vl, ml]) (by rw [hT]; rfl)] at q92
        rw [Array.getD_eq_getD_getElem?] at q92
        have cm := Lib.hid (RL.out w9 (Ex.trans bw.out hJ.ext))
        clear hsz hdep hout hlat
        go_simp
        refine cm.out.mono ?_
        rintro e w3 ⟨rfl, xq⟩
        exact hK _ _ (hJ.plain (by decide) (by decide) xq (fun x hx => by rw [hT] at hx; first | exact Option.some.inj hx | simpa using hx))
      · have kg := (hdep ⟨13, .guard⟩ (by simp) rfl).2 _ rfl _ rfl
        rw [show f 13 = _ from hJ.vals 13 (hdep ⟨13, .guard⟩ (by simp) rfl).1 (.bool true) (by rw [hT]; rfl)] at kg
        rw [if_pos (wanted_of rfl rfl rfl kg)]
        intro K hK
        have q91 := (hdep ⟨14, .data⟩ (by simp) rfl).2 _ rfl _ rfl
        rw [show f 14 = _ from hJ.vals 14 (hdep ⟨14, .data⟩ (by simp) rfl).1 (.bool true) (by rw [hT]; rfl)] at q91
        have q93 := (hdep ⟨16, .data⟩ (by simp) rfl).2 _ rfl _ rfl
        rw [show f 16 = _ from hJ.vals 16 (hdep ⟨16, .data⟩ (by simp) rfl).1 (.bool true) (by rw [hT]; rfl)] at q93
        rw [Array.getD_eq_getD_getElem?] at q91
        rw [Array.getD_eq_getD_getElem?] at q93
        clear hsz hdep hout hlat
        go_simp
        exact hK _ _ (hJ.plain (by decide) (by decide) (Ex.refl _) (fun x hx => by rw [hT] at hx; first | exact Option.some.inj hx | simpa using hx))
      · rw [if_pos (by rfl)]
        intro K hK
        have q90 := (hdep ⟨13, .data⟩ (by simp) rfl).2 _ rfl _ rfl
        rw [show f 13 = _ from hJ.vals 13 (hdep ⟨13, .data⟩ (by simp) rfl).1 (.bool true) (by rw [hT]; rfl)] at q90
        have q94 := (hdep ⟨17, .data⟩ (by simp) rfl).2 _ rfl _ rfl
        rw [show f 17 = _ from hJ.vals 17 (hdep ⟨17, .data⟩ (by simp) rfl).1 (.bool true) (by rw [hT]; rfl)] at q94
        rw [Array.getD_eq_getD_getElem?] at q90
        rw [Array.getD_eq_getD_getElem?] at q94
        clear hsz hdep hout hlat
        go_simp
        exact hK _ _ (hJ.plain (by decide) (by decide) (Ex.refl _) (fun x hx => by rw [hT] at hx; first | exact Option.some.inj hx | simpa using hx))
      · rw [if_pos (by rfl)]
        intro K hK
        have q95 := (hdep ⟨18, .data⟩ (by simp) rfl).2 _ rfl _ rfl
        rw [show f 18 = _ from hJ.vals 18 (hdep ⟨18, .data⟩ (by simp) rfl).1 (.bool true) (by rw [hT]; rfl)] at q95
        refine wp_mv _ rfl (hK _ _ ?_)
        rw [show a.eval (.tmp 95) = .bool true from q95]
        exact hJ.plain (by decide) (by decide) (Ex.refl _) (fun x hx => by rw [hT] at hx; first | exact Option.some.inj hx | simpa using hx)
      · have kg := (hdep ⟨19, .guard⟩ (by simp) rfl).2 _ rfl _ rfl
        rw [show f 19 = _ from hJ.vals 19 (hdep ⟨19, .guard⟩ (by simp) rfl).1 (.bool true) (by rw [hT]; rfl)] at kg
        rw [if_pos (wanted_of rfl rfl rfl kg)]
        intro K hK
        have q17 := hout 17 (outB_spec (by kernel_rfl))
        refine wp_mv _ rfl (hK _ _ ?_)
        rw [show a.eval (.tmp 17) = .bool true from q17]
        exact hJ.plain (by decide) (by decide) (Ex.refl _) (fun x hx => by rw [hT] at hx; first | exact Option.some.inj hx | simpa using hx)
      · have kg := (hdep ⟨19, .guard⟩ (by simp) rfl).2 _ rfl _ rfl
        rw [show f 19 = _ from hJ.vals 19 (hdep ⟨19, .guard⟩ (by simp) rfl).1 (.bool true) (by rw [hT]; rfl)] at kg
        rw [if_pos (wanted_of rfl rfl rfl kg)]
        intro K hK
        have q97 := (hdep ⟨20, .data⟩ (by simp) rfl).2 _ rfl _ rfl
        rw [show f 20 = _ from hJ.vals 20 (hdep ⟨20, .data⟩ (by simp) rfl).1 (.bool true) (by rw [hT]; rfl)] at q97
        rw [Array.getD_eq_getD_getElem?] at q97
        clear hsz hdep hout hlat
        go_simp
        exact hK _ _ (hJ.plain (by decide) (by decide) (Ex.refl _) (fun x hx => by rw [hT] at hx; first | exact Option.some.inj hx | simpa using hx))
      · have kg := (hdep ⟨19, .guard⟩ (by simp) rfl).2 _ rfl _ rfl
        rw [show f 19 = _ from hJ.vals 19 (hdep ⟨19, .guard⟩ (by simp) rfl).1 (.bool true) (by rw [hT]; rfl)] at kg
        rw [if_pos (wanted_of rfl rfl rfl kg)]
        intro K hK
        have q98 := (hdep ⟨21, .data⟩ (by simp) rfl).2 _ rfl _ rfl
        rw [show f 21 = _ from hJ.vals 21 (hdep ⟨21, .data⟩ (by simp) rfl).1 (.bool false) (by rw [hT]; rfl)] at q98
        refine wp_mv _ rfl (hK _ _ ?_)
        rw [show a.eval (.tmp 98) = .bool false from q98]
        exact hJ.plain (by decide) (by decide) (Ex.refl _) (fun x hx => by rw [hT] at hx; first | exact Option.some.inj hx | simpa using hx)
      · have kg := (hdep ⟨22, .guard⟩ (by simp) rfl).2 _ rfl _ rfl
        rw [show f 22 = _ from hJ.vals 22 (hdep ⟨22, .guard⟩ (by simp) rfl).1 (.bool false) (by rw [hT]; rfl)] at kg
        rw [if_neg (not_wanted rfl rfl rfl kg (by decide))]
        exact hJ.plain (by decide) (by decide) (Ex.refl _) (fun x hx => by rw [hT] at hx; change none = some x at hx; cases hx)
      · have kg := (hdep ⟨22, .guard⟩ (by simp) rfl).2 _ rfl _ rfl
        rw [show f 22 = _ from hJ.vals 22 (hdep ⟨22, .guard⟩ (by simp) rfl).1 (.bool false) (by rw [hT]; rfl)] at kg
        rw [if_neg (not_wanted rfl rfl rfl kg (by decide))]
        exact hJ.plain (by decide) (by decide) (Ex.refl _) (fun x hx => by rw [hT] at hx; change none = some x at hx; cases hx)
      · have kg := (hdep ⟨22, .guard⟩ (by simp) rfl).2 _ rfl _ rfl
        rw [show f 22 = _ from hJ.vals 22 (hdep ⟨22, .guard⟩ (by simp) rfl).1 (.bool false) (by rw [hT]; rfl)] at kg
        rw [if_neg (not_wanted rfl rfl rfl kg (by decide))]
        exact hJ.plain (by decide) (by decide) (Ex.refl _) (fun x hx => by rw [hT] at hx; change none = some x at hx; cases hx)
      · have kg := (hdep ⟨19, .guard⟩ (by simp) rfl).2 _ rfl _ rfl
        rw [show f 19 = _ from hJ.vals 19 (hdep ⟨19, .guard⟩ (by simp) rfl).1 (.bool true) (by rw [hT]; rfl)] at kg
        rw [if_pos (wanted_of rfl rfl rfl kg)]
        intro K hK
        have q99 := (hdep ⟨22, .data⟩ (by simp) rfl).2 _ rfl _ rfl
        rw [show f 22 = _ from hJ.vals 22 (hdep ⟨22, .data⟩ (by simp) rfl).1 (.bool false) (by rw [hT]; rfl)] at q99
        have q102 := (hdep ⟨25, .data⟩ (by simp) rfl).2 _ rfl _ rfl
        rw [Array.getD_eq_getD_getElem?] at q99
        rw [Array.getD_eq_getD_getElem?] at q102
        clear hsz hdep hout hlat
        go_simp
        exact hK _ _ (hJ.plain (by decide) (by decide) (Ex.refl _) (fun x hx => by rw [hT] at hx; first | exact Option.some.inj hx | simpa using hx))
      · have kg := (hdep ⟨19, .guard⟩ (by simp) rfl).2 _ rfl _ rfl
        rw [show f 19 = _ from hJ.vals 19 (hdep ⟨19, .guard⟩ (by simp) rfl).1 (.bool true) (by rw [hT]; rfl)] at kg
        rw [if_pos (wanted_of rfl rfl rfl kg)]
        intro K hK
        have q103 := (hdep ⟨26, .data⟩ (by simp) rfl).2 _ rfl _ rfl
        rw [show f 26 = _ from hJ.vals 26 (hdep ⟨26, .data⟩ (by simp) rfl).1 (.bool false) (by rw [hT]; rfl)] at q103
        refine wp_mv _ rfl (hK _ _ ?_)
        rw [show a.eval (.tmp 103) = .bool false from q103]
        exact hJ.plain (by decide) (by decide) (Ex.refl _) (fun x hx => by rw [hT] at hx; first | exact Option.some.inj hx | simpa using hx)
      · have kg := (hdep ⟨27, .guard⟩ (by simp) rfl).2 _ rfl _ rfl
        rw [show f 27 = _ from hJ.vals 27 (hdep ⟨27, .guard⟩ (by simp) rfl).1 (.bool false) (by rw [hT]; rfl)] at kg
        rw [if_pos (wanted_of rfl rfl rfl kg)]
        intro K hK
        have q17 := hout 17 (outB_spec (by kernel_rfl))
        refine wp_mv _ rfl (hK _ _ ?_)
        rw [show a.eval (.tmp 17) = .bool true from q17]
        exact hJ.plain (by decide) (by decide) (Ex.refl _) (fun x hx => by rw [hT] at hx; first | exact Option.some.inj hx | simpa using hx)
      · have kg := (hdep ⟨27, .guard⟩ (by simp) rfl).2 _ rfl _ rfl
        rw [show f 27 = _ from hJ.vals 27 (hdep ⟨27, .guard⟩ (by simp) rfl).1 (.bool false) (by rw [hT]; rfl)] at kg
        rw [if_pos (wanted_of rfl rfl rfl kg)]
        intro K hK
        have q105 := (hdep ⟨28, .data⟩ (by simp) rfl).2 _ rfl _ rfl
        rw [show f 28 = _ from hJ.vals 28 (hdep ⟨28, .data⟩ (by simp) rfl).1 (.bool true) (by rw [hT]; rfl)] at q105
        refine wp_mv _ rfl (hK _ _ ?_)
        rw [show a.eval (.tmp 105) = .bool true from q105]
        exact hJ.plain (by decide) (by decide) (Ex.refl _) (fun x hx => by rw [hT] at hx; first | exact Option.some.inj hx | simpa using hx)
      · have kg := (hdep ⟨29, .guard⟩ (by simp) rfl).2 _ rfl _ rfl
        rw [show f 29 = _ from hJ.vals 29 (hdep ⟨29, .guard⟩ (by simp) rfl).1 (.bool true) (by rw [hT]; rfl)] at kg
        rw [if_pos (wanted_of rfl rfl rfl kg)]
        intro K hK
        have q16 := hout 16 (outB_spec (by kernel_rfl))
        exact Sm.wp_ld _ g16 (markL C vl pl.l) rfl q16 (DB.ext D9.out hJ.ext) (hK _ _ (hJ.plain (by decide) (by decide) (Ex.refl _) (fun x hx => by rw [hT] at hx; first | exact Option.some.inj hx | simpa using hx)))
      · have kg := (hdep ⟨29, .guard⟩ (by simp) rfl).2 _ rfl _ rfl
        rw [show f 29 = _ from hJ.vals 29 (hdep ⟨29, .guard⟩ (by simp) rfl).1 (.bool true) (by rw [hT]; rfl)] at kg
        rw [if_pos (wanted_of rfl rfl rfl kg)]
        intro K hK
        have q4 := hout 4 (outB_spec (by kernel_rfl))
        exact Sm.wp_ld _ B C rfl q4 (d0.out.ext hJ.ext) (hK _ _ (hJ.plain (by decide) (by decide) (Ex.refl _) (fun x hx => by rw [hT] at hx; first | exact Option.some.inj hx | simpa using hx)))
      · have kg := (hdep ⟨29, .guard⟩ (by simp) rfl).2 _ rfl _ rfl
        rw [show f 29 = _ from hJ.vals 29 (hdep ⟨29, .guard⟩ (by simp) rfl).1 (.bool true) (by rw [hT]; rfl)] at kg
        rw [if_pos (wanted_of rfl rfl rfl kg)]
        intro K hK
        have q6 := hout 6 (outB_spec (by kernel_rfl))
        refine wp_ld45g _ (B + 2) _ _ rfl q6 (l0.out.ext hJ.ext) (hK _ _ (hJ.plain (by decide) (by decide) (Ex.refl _) (fun x hx => by rw [hT] at hx; first | exact Option.some.inj hx | simpa using hx)))
      · have kg := (hdep ⟨29, .guard⟩ (by simp) rfl).2 _ rfl _ rfl
        rw [show f 29 = _ from hJ.vals 29 (hdep ⟨29, .guard⟩ (by simp) rfl).1 (.bool true) (by rw [hT]; rfl)] at kg
        rw [if_pos (wanted_of rfl rfl rfl kg)]
        intro K hK
        have q108 := (hdep ⟨31, .data⟩ (by simp) rfl).2 _ rfl _ rfl
        rw [show f 31 = _ from hJ.vals 31 (hdep ⟨31, .data⟩ (by simp) rfl).1 (digV C) (by rw [hT]; rfl)] at q108
        have q109 := (hdep ⟨32, .data⟩ (by simp) rfl).2 _ rfl _ rfl
        rw [show f 32 = _ from hJ.vals 32 (hdep ⟨32, .data⟩ (by simp) rfl).1 (.agg #[.int .u64 vl, ml]) (by rw [hT]; rfl)] at q109
        rw [Array.getD_eq_getD_getElem?] at q108
        rw [Array.getD_eq_getD_getElem?] at q109
        have cm := Lib.hid (MR.out w9 (Ex.trans bw.out hJ.ext))
        clear hsz hdep hout hlat
        go_simp
        refine cm.out.mono ?_
        rintro e w3 ⟨rfl, xq⟩
        exact hK _ _ (hJ.plain (by decide) (by decide) xq (fun x hx => by rw [hT] at hx; first | exact Option.some.inj hx | simpa using hx))
      · have kg := (hdep ⟨29, .guard⟩ (by simp) rfl).2 _ rfl _ rfl
        rw [show f 29 = _ from hJ.vals 29 (hdep ⟨29, .guard⟩ (by simp) rfl).1 (.bool true) (by rw [hT]; rfl)] at kg
        rw [if_pos (wanted_of rfl rfl rfl kg)]
        intro K hK
        have q107 := (hdep ⟨30, .data⟩ (by simp) rfl).2 _ rfl _ rfl
        rw [show f 30 = _ from hJ.vals 30 (hdep ⟨30, .data⟩ (by simp) rfl).1 (digV (markL C vl pl.l)) (by rw [hT]; rfl)] at q107
        have q110 := (hdep ⟨33, .data⟩ (by simp) rfl).2 _ rfl _ rfl
        rw [show f 33 = _ from hJ.vals 33 (hdep ⟨33, .data⟩ (by simp) rfl).1 (digV (markL C vl pl.l)) (by rw [hT]; rfl)] at q110
        refine Sm.wp_eql_dig _ _ _ rfl (markL C vl pl.l) (markL C vl pl.l) rfl rfl q107 q110 ?_
        rw [decide_eq_true rfl]
        exact hK _ _ (hJ.plain (by decide) (by decide) (Ex.refl _) (fun x hx => by rw [hT] at hx; first | exact Option.some.inj hx | simpa using hx))
      · have kg := (hdep ⟨27, .guard⟩ (by simp) rfl).2 _ rfl _ rfl
        rw [show f 27 = _ from hJ.vals 27 (hdep ⟨27, .guard⟩ (by simp) rfl).1 (.bool false) (by rw [hT]; rfl)] at kg
        rw [if_pos (wanted_of rfl rfl rfl kg)]
        intro K hK
        have q106 := (hdep ⟨29, .data⟩ (by simp) rfl).2 _ rfl _ rfl
        rw [show f 29 = _ from hJ.vals 29 (hdep ⟨29, .data⟩ (by simp) rfl).1 (.bool true) (by rw [hT]; rfl)] at q106
        have q111 := (hdep ⟨34, .data⟩ (by simp) rfl).2 _ rfl _ rfl
        rw [show f 34 = _ from hJ.vals 34 (hdep ⟨34, .data⟩ (by simp) rfl).1 (.bool true) (by rw [hT]; rfl)] at q111
        rw [Array.getD_eq_getD_getElem?] at q106
        rw [Array.getD_eq_getD_getElem?] at q111
        clear hsz hdep hout hlat
        go_simp
        exact hK _ _ (hJ.plain (by decide) (by decide) (Ex.refl _) (fun x hx => by rw [hT] at hx; first | exact Option.some.inj hx | simpa using hx))
      · have kg := (hdep ⟨19, .guard⟩ (by simp) rfl).2 _ rfl _ rfl
        rw [show f 19 = _ from hJ.vals 19 (hdep ⟨19, .guard⟩ (by simp) rfl).1 (.bool true) (by rw [hT]; rfl)] at kg
        rw [if_pos (wanted_of rfl rfl rfl kg)]
        intro K hK
        have q104 := (hdep ⟨27, .data⟩ (by simp) rfl).2 _ rfl _ rfl
        rw [show f 27 = _ from hJ.vals 27 (hdep ⟨27, .data⟩ (by simp) rfl).1 (.bool false) (by rw [hT]; rfl)] at q104
        have q112 := (hdep ⟨35, .data⟩ (by simp) rfl).2 _ rfl _ rfl
        rw [show f 35 = _ from hJ.vals 35 (hdep ⟨35, .data⟩ (by simp) rfl).1 (.bool true) (by rw [hT]; rfl)] at q112
        rw [Array.getD_eq_getD_getElem?] at q104
        rw [Array.getD_eq_getD_getElem?] at q112
        clear hsz hdep hout hlat
        go_simp
        exact hK _ _ (hJ.plain (by decide) (by decide) (Ex.refl _) (fun x hx => by rw [hT] at hx; first | exact Option.some.inj hx | simpa using hx))
      · rw [if_pos (by rfl)]
        intro K hK
        have q96 := (hdep ⟨19, .data⟩ (by simp) rfl).2 _ rfl _ rfl
        rw [show f 19 = _ from hJ.vals 19 (hdep ⟨19, .data⟩ (by simp) rfl).1 (.bool true) (by rw [hT]; rfl)] at q96
        have q113 := (hdep ⟨36, .data⟩ (by simp) rfl).2 _ rfl _ rfl
        rw [show f 36 = _ from hJ.vals 36 (hdep ⟨36, .data⟩ (by simp) rfl).1 (.bool true) (by rw [hT]; rfl)] at q113
        rw [Array.getD_eq_getD_getElem?] at q96
        rw [Array.getD_eq_getD_getElem?] at q113
        clear hsz hdep hout hlat
        go_simp
        exact hK _ _ (hJ.plain (by decide) (by decide) (Ex.refl _) (fun x hx => by rw [hT] at hx; first | exact Option.some.inj hx | simpa using hx))
      · rw [if_pos (by rfl)]
        intro K hK
        have q114 := (hdep ⟨37, .data⟩ (by simp) rfl).2 _ rfl _ rfl
        rw [show f 37 = _ from hJ.vals 37 (hdep ⟨37, .data⟩ (by simp) rfl).1 (.bool true) (by rw [hT]; rfl)] at q114
        rw [Array.getD_eq_getD_getElem?] at q114
        clear hsz hdep hout hlat
        go_simp
        exact hK _ _ (hJ.plain (by decide) (by decide) (Ex.refl _) (fun x hx => by rw [hT] at hx; first | exact Option.some.inj hx | simpa using hx))
    · intro listed f w9 hall hJ
      have f0 : f 0 = .int .i64 cN := hJ.vals 0 (hall 0 (by simp)) _ (by rw [hT]; rfl)
      have f1 : f 1 = .int .i64 cN := hJ.vals 1 (hall 1 (by simp)) _ (by rw [hT]; rfl)
      have f2 : f 2 = .bool true := hJ.vals 2 (hall 2 (by simp)) _ (by rw [hT]; rfl)
      have f3 : f 3 = .bool true := hJ.vals 3 (hall 3 (by simp)) _ (by rw [hT]; rfl)
      have f4 : f 4 = .bool true := hJ.vals 4 (hall 4 (by simp)) _ (by rw [hT]; rfl)
      have f5 : f 5 = .bool true := hJ.vals 5 (hall 5 (by simp)) _ (by rw [hT]; rfl)
      have f6 : f 6 = .bool true := hJ.vals 6 (hall 6 (by simp)) _ (by rw [hT]; rfl)
      have f7 : f 7 = .bool true := hJ.vals 7 (hall 7 (by simp)) _ (by rw [hT]; rfl)
      have f8 : f 8 = .bool true := hJ.vals 8 (hall 8 (by simp)) _ (by rw [hT]; rfl)
      have f9 : f 9 = .int .i64 0 := hJ.vals 9 (hall 9 (by simp)) _ (by rw [hT]; rfl)
      have f10 : f 10 = .int .i64 0 := hJ.vals 10 (hall 10 (by simp)) _ (by rw [hT]; rfl)
      have f11 : f 11 = .bool true := hJ.vals 11 (hall 11 (by simp)) _ (by rw [hT]; rfl)
      have f12 : f 12 = .bool true := hJ.vals 12 (hall 12 (by simp)) _ (by rw [hT]; rfl)
      have f13 : f 13 = .bool true := hJ.vals 13 (hall 13 (by simp)) _ (by rw [hT]; rfl)
      have f14 : f 14 = .bool true := hJ.vals 14 (hall 14 (by simp)) _ (by rw [hT]; rfl)
      have f15 : f 15 = .agg #[.int .u64 vl, ml] := hJ.vals 15 (hall 15 (by simp)) _ (by rw [hT]; rfl)
      have f16 : f 16 = .bool true := hJ.vals 16 (hall 16 (by simp)) _ (by rw [hT]; rfl)
      have f17 : f 17 = .bool true := hJ.vals 17 (hall 17 (by simp)) _ (by rw [hT]; rfl)
      have f18 : f 18 = .bool true := hJ.vals 18 (hall 18 (by simp)) _ (by rw [hT]; rfl)
      have f19 : f 19 = .bool true := hJ.vals 19 (hall 19 (by simp)) _ (by rw [hT]; rfl)
      have f20 : f 20 = .bool true := hJ.vals 20 (hall 20 (by simp)) _ (by rw [hT]; rfl)
      have f21 : f 21 = .bool false := hJ.vals 21 (hall 21 (by simp)) _ (by rw [hT]; rfl)
      have f22 : f 22 = .bool false := hJ.vals 22 (hall 22 (by simp)) _ (by rw [hT]; rfl)
      have f26 : f 26 = .bool false := hJ.vals 26 (hall 26 (by simp)) _ (by rw [hT]; rfl)
      have f27 : f 27 = .bool false := hJ.vals 27 (hall 27 (by simp)) _ (by rw [hT]; rfl)
      have f28 : f 28 = .bool true := hJ.vals 28 (hall 28 (by simp)) _ (by rw [hT]; rfl)
      have f29 : f 29 = .bool true := hJ.vals 29 (hall 29 (by simp)) _ (by rw [hT]; rfl)
      have f30 : f 30 = digV (markL C vl pl.l) := hJ.vals 30 (hall 30 (by simp)) _ (by rw [hT]; rfl)
      have f31 : f 31 = digV C := hJ.vals 31 (hall 31 (by simp)) _ (by rw [hT]; rfl)
      have f32 : f 32 = .agg #[.int .u64 vl, ml] := hJ.vals 32 (hall 32 (by simp)) _ (by rw [hT]; rfl)
      have f33 : f 33 = digV (markL C vl pl.l) := hJ.vals 33 (hall 33 (by simp)) _ (by rw [hT]; rfl)
      have f34 : f 34 = .bool true := hJ.vals 34 (hall 34 (by simp)) _ (by rw [hT]; rfl)
      have f35 : f 35 = .bool true := hJ.vals 35 (hall 35 (by simp)) _ (by rw [hT]; rfl)
      have f36 : f 36 = .bool true := hJ.vals 36 (hall 36 (by simp)) _ (by rw [hT]; rfl)
      have f37 : f 37 = .bool true := hJ.vals 37 (hall 37 (by simp)) _ (by rw [hT]; rfl)
      have f38 : f 38 = .bool true := hJ.vals 38 (hall 38 (by simp)) _ (by rw [hT]; rfl)
      have xw := hJ.ext
      simp only [putAll, Act.put, List.setIfInBounds_toArray, List.set_cons_zero, List.set_cons_succ, Nat.zero_add, Nat.reduceAdd]
      rw [f0, f1, f2, f3, f4, f5, f6, f7, f8, f9, f10, f11, f12, f13, f14, f15, f16, f17, f18, f19, f20, f21, f22, f26, f27, f28, f29, f30, f31, f32, f33, f34, f35, f36, f37, f38]
      clear f0 f1 f2 f3 f4 f5 f6 f7 f8 f9 f10 f11 f12 f13 f14 f15 f16 f17 f18 f19 f20 f21 f22 f26 f27 f28 f29 f30 f31 f32 f33 f34 f35 f36 f37 f38 hJ hall hT
      generalize f 23 = y23
      generalize f 24 = y24
      generalize f 25 = y25
      replace bw := Lib.hid (Ex.trans bw.out xw)
      clear xw
      go_wp2_with (first | (with_reducible refine Sm.stop_load59 ?_) | (with_reducible refine Sm.stop_store59 ?_) | (with_reducible refine stop_load45 ?_) | (with_reducible refine stop_store45 ?_))
      go_ret
      exact ⟨rfl, bw.out⟩
theorem same15_any (C : List UInt8) (hC : C.length = 16) (va vl : Int) (hv0 : 0 ≤ vl) (hv1 : vl < 18446744073709551616) (pa pl : Pt) (q : Vp) (w : World) (ha : pa.In w w.heap.size) (hl : pl.In w w.heap.size) (hq : q.In w w.heap.size) (hL : q.l.length ≤ 9223372036854775807) (hLl : pl.l.length ≤ 9223372036854775807) :
    Calls Try.prog 38 #[digV C, LV va pa, LV vl pl, q.V] w fun e w' => e = .returned (.bool true) ∧ Below w.heap.size w w' := by
  cases h1 : followsB va pa.l vl pl.l
  · exact same15_A C hC va vl hv0 hv1 pa pl q w ha hl hq hL hLl h1
  · cases h2 : chkB C va pa.l vl pl.l q.l
    · exact same15_B C hC va vl hv0 hv1 pa pl q w ha hl hq hL hLl h1 h2
    · exact same15_C C hC va vl hv0 hv1 pa pl q w ha hl hq hL hLl h1 h2
end Go.Proofs.Ytgoiidpcdifojaa
