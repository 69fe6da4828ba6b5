/- endorse.Check -/
import Derived.Test.YtgoiidpcdifojaaEx
import Derived.Test.YtgoiidpcdifojaaRoI
import Derived.Test.YtgoiidpcdifojaaFlH
namespace Go.Proofs.Ytgoiidpcdifojaa
open Go.RowKit
open Sm (digV DB by8 sumL numL zero16 by8_int Cls cls_load_mid wp_region_cls byteCells_len)
def keyL (C : List UInt8) (m : Int) : List UInt8 := sumL (C ++ [by8 m])
theorem keyL_len (C : List UInt8) (m : Int) : (keyL C m).length = 16 := rfl
def cntN (C : List UInt8) (vl : Int) (ll : List Int) (vs : List (Int × List UInt8)) (bl : List Int) : Nat := bl.countP fun m => decide ((m, markL (keyL C m) vl ll) ∈ vs)
theorem cntN_snoc (C : List UInt8) (vl : Int) (ll : List Int) (vs : List (Int × List UInt8)) (bl : List Int) (m : Int) : cntN C vl ll vs (bl ++ [m]) = cntN C vl ll vs bl + if decide ((m, markL (keyL C m) vl ll) ∈ vs) = true then 1 else 0 := by
  unfold cntN
  rw [List.countP_append]
  simp [List.countP_cons]
theorem take_getD (l : List Int) (k : Nat) (h : k < l.length) : l.take (k + 1) = l.take k ++ [l.getD k 0] := by
  rw [List.take_succ_eq_append_getElem h]; simp [List.getD, h]
theorem cntN_le (C : List UInt8) (vl : Int) (ll : List Int) (vs : List (Int × List UInt8)) (bl : List Int) : cntN C vl ll vs bl ≤ bl.length := List.countP_le_length
set_option maxHeartbeats 4000000 in
set_option maxRecDepth 100000 in
theorem check_no1 (C : List UInt8) (hC : C.length = 16) (vb vl : Int) (hv0 : 0 ≤ vl) (hv1 : vl < 18446744073709551616) (pb pl : Pt) (q : Vp) (w : World) (hb : pb.In w w.heap.size) (hl : pl.In w w.heap.size) (hq : q.In w w.heap.size) (hL : q.l.length ≤ 9223372036854775807) (hr : rightB vb pb.l = false) :
    Calls Try.prog 43 #[digV C, LV vb pb, LV vl pl, q.V] w fun e w' => e = .returned (.tuple #[.int .i64 0, .bool false]) ∧ Below w.heap.size w w' := by
  obtain ⟨mb, hmb⟩ : ∃ mb : Value, mb = pb.V := ⟨_, rfl⟩
  obtain ⟨ml, hml⟩ : ∃ ml : Value, ml = pl.V := ⟨_, rfl⟩
  have HMB := Lib.hid hmb
  have HML := Lib.hid hml
  have RB := Lib.hid (fun W (h : Ex w W) => (show Calls Try.prog 49 #[.agg #[.int .u64 vb, mb]] W fun e w' => e = .returned (.bool (rightB vb pb.l)) ∧ Below W.heap.size W w' by rw [hmb]; exact right_any vb pb W (hb.ext h)))
  have RL := Lib.hid (fun W (h : Ex w W) => (show Calls Try.prog 49 #[.agg #[.int .u64 vl, ml]] W fun e w' => e = .returned (.bool (rightB vl pl.l)) ∧ Below W.heap.size W w' by rw [hml]; exact right_any vl pl W (hl.ext h)))
  obtain ⟨cs, hcs⟩ : ∃ cs, cs = (Lib.byteCells C).toArray := ⟨_, rfl⟩
  have d0 : Hid (DB (((w.alloc (.cells cs 59)).alloc (.cells #[.int .u64 vb, mb] 45)).alloc (.cells #[.int .u64 vl, ml] 45)) w.heap.size C) := Lib.hid ⟨hC, by rw [hcs]; exact ((Sm.Bk.new rfl _ _).more _).more _⟩
  have l0 : Hid (Bk (((w.alloc (.cells cs 59)).alloc (.cells #[.int .u64 vb, mb] 45)).alloc (.cells #[.int .u64 vl, ml] 45)) (w.heap.size + 1) 45 #[.int .u64 vb, mb]) := Lib.hid ((Bk.new (by simp) _ _).more _)
  have z0 : Hid (Bk (((w.alloc (.cells cs 59)).alloc (.cells #[.int .u64 vb, mb] 45)).alloc (.cells #[.int .u64 vl, ml] 45)) (w.heap.size + 2) 45 #[.int .u64 vl, ml]) := Lib.hid (Bk.new (by simp) _ _)
  have BW := Lib.hid (show Ex w (((w.alloc (.cells cs 59)).alloc (.cells #[.int .u64 vb, mb] 45)).alloc (.cells #[.int .u64 vl, ml] 45)) from (((Below.refl _ _).alloc (Nat.le_refl _) _).alloc (by simp) _).alloc (by simp; omega) _)
  rw [show (Calls Try.prog 43 #[digV C, LV vb pb, LV vl pl, q.V] w) = (Calls Try.prog 43 #[.agg cs, .agg #[.int .u64 vb, mb], .agg #[.int .u64 vl, ml], q.V] w) by rw [hcs, hmb, hml]; rfl]
  obtain ⟨qv, hqv⟩ : ∃ qv, qv = q.V := ⟨_, rfl⟩
  rw [← hqv]
  have HQV := Lib.hid hqv
  rw [hr] at RB
  clear hcs hqv hmb hml hr hb hl hq hL hC hv0 hv1 RL
  go_enter Try.func43, Try.ntmps43
  go_wp2_with (first | (with_reducible refine Sm.stop_load59 ?_) | (with_reducible refine Sm.stop_store59 ?_) | (with_reducible refine stop_load45 ?_) | (with_reducible refine stop_store45 ?_))
  have bw := BW.out
  generalize hw1 : ((w.alloc (.cells cs 59)).alloc (.cells #[.int .u64 vb, mb] 45)).alloc (.cells #[.int .u64 vl, ml] 45) = w1 at *
  obtain ⟨B, hB⟩ : ∃ B, B = w.heap.size := ⟨_, rfl⟩
  rw [← hB] at d0 l0 z0 ⊢
  have HB := Lib.hid hB
  clear hw1 hB BW
  have bw := Lib.hid bw
  (with_reducible refine ⟨?_⟩); (with_reducible refine at_any ?_ ?_); (focus go_simp); refine fun K0 hK => wp_ld45g _ (B + 1) _ _ rfl rfl l0.out (hK _ _ ?_)
  clear hK
  have RB1 := Lib.hid (RB.out w1 bw.out)
  clear RB
  go_wp2_with (first | (with_reducible refine Sm.stop_load59 ?_) | (with_reducible refine Sm.stop_store59 ?_) | (with_reducible refine stop_load45 ?_) | (with_reducible refine stop_store45 ?_))
  refine RB1.out.mono ?_
  rintro e w2 ⟨rfl, xr⟩
  have d0 := Lib.hid (d0.out.ext xr)
  have l0 := Lib.hid (l0.out.ext xr)
  have z0 := Lib.hid (z0.out.ext xr)
  have bw := Lib.hid (Ex.trans bw.out xr)
  clear RB1 xr
  go_wp2_with (first | (with_reducible refine Sm.stop_load59 ?_) | (with_reducible refine Sm.stop_store59 ?_) | (with_reducible refine stop_load45 ?_) | (with_reducible refine stop_store45 ?_))
  (with_reducible refine ⟨?_⟩); (with_reducible refine at_not ?_ ?_); (focus go_simp)
  go_wp2_with (first | (with_reducible refine Sm.stop_load59 ?_) | (with_reducible refine Sm.stop_store59 ?_) | (with_reducible refine stop_load45 ?_) | (with_reducible refine stop_store45 ?_))
  go_ret2
  exact ⟨rfl, bw.out⟩
set_option maxHeartbeats 4000000 in
set_option maxRecDepth 100000 in
theorem check_no2 (C : List UInt8) (hC : C.length = 16) (vb vl : Int) (hv0 : 0 ≤ vl) (hv1 : vl < 18446744073709551616) (pb pl : Pt) (q : Vp) (w : World) (hb : pb.In w w.heap.size) (hl : pl.In w w.heap.size) (hq : q.In w w.heap.size) (hL : q.l.length ≤ 9223372036854775807) (hr : rightB vb pb.l = true) (hs : rightB vl pl.l = false) :
    Calls Try.prog 43 #[digV C, LV vb pb, LV vl pl, q.V] w fun e w' => e = .returned (.tuple #[.int .i64 0, .bool false]) ∧ Below w.heap.size w w' := by
  obtain ⟨mb, hmb⟩ : ∃ mb : Value, mb = pb.V := ⟨_, rfl⟩
  obtain ⟨ml, hml⟩ : ∃ ml : Value, ml = pl.V := ⟨_, rfl⟩
  have HMB := Lib.hid hmb
  have HML := Lib.hid hml
  have RB := Lib.hid (fun W (h : Ex w W) => (show Calls Try.prog 49 #[.agg #[.int .u64 vb, mb]] W fun e w' => e = .returned (.bool (rightB vb pb.l)) ∧ Below W.heap.size W w' by rw [hmb]; exact right_any vb pb W (hb.ext h)))
  have RL := Lib.hid (fun W (h : Ex w W) => (show Calls Try.prog 49 #[.agg #[.int .u64 vl, ml]] W fun e w' => e = .returned (.bool (rightB vl pl.l)) ∧ Below W.heap.size W w' by rw [hml]; exact right_any vl pl W (hl.ext h)))
  obtain ⟨cs, hcs⟩ : ∃ cs, cs = (Lib.byteCells C).toArray := ⟨_, rfl⟩
  have d0 : Hid (DB (((w.alloc (.cells cs 59)).alloc (.cells #[.int .u64 vb, mb] 45)).alloc (.cells #[.int .u64 vl, ml] 45)) w.heap.size C) := Lib.hid ⟨hC, by rw [hcs]; exact ((Sm.Bk.new rfl _ _).more _).more _⟩
  have l0 : Hid (Bk (((w.alloc (.cells cs 59)).alloc (.cells #[.int .u64 vb, mb] 45)).alloc (.cells #[.int .u64 vl, ml] 45)) (w.heap.size + 1) 45 #[.int .u64 vb, mb]) := Lib.hid ((Bk.new (by simp) _ _).more _)
  have z0 : Hid (Bk (((w.alloc (.cells cs 59)).alloc (.cells #[.int .u64 vb, mb] 45)).alloc (.cells #[.int .u64 vl, ml] 45)) (w.heap.size + 2) 45 #[.int .u64 vl, ml]) := Lib.hid (Bk.new (by simp) _ _)
  have BW := Lib.hid (show Ex w (((w.alloc (.cells cs 59)).alloc (.cells #[.int .u64 vb, mb] 45)).alloc (.cells #[.int .u64 vl, ml] 45)) from (((Below.refl _ _).alloc (Nat.le_refl _) _).alloc (by simp) _).alloc (by simp; omega) _)
  rw [show (Calls Try.prog 43 #[digV C, LV vb pb, LV vl pl, q.V] w) = (Calls Try.prog 43 #[.agg cs, .agg #[.int .u64 vb, mb], .agg #[.int .u64 vl, ml], q.V] w) by rw [hcs, hmb, hml]; rfl]
  obtain ⟨qv, hqv⟩ : ∃ qv, qv = q.V := ⟨_, rfl⟩
  rw [← hqv]
  have HQV := Lib.hid hqv
  rw [hr] at RB
  rw [hs] at RL
  clear hcs hqv hmb hml hr hs hb hl hq hL hC hv0 hv1
  go_enter Try.func43, Try.ntmps43
  go_wp2_with (first | (with_reducible refine Sm.stop_load59 ?_) | (with_reducible refine Sm.stop_store59 ?_) | (with_reducible refine stop_load45 ?_) | (with_reducible refine stop_store45 ?_))
  have bw := BW.out
  generalize hw1 : ((w.alloc (.cells cs 59)).alloc (.cells #[.int .u64 vb, mb] 45)).alloc (.cells #[.int .u64 vl, ml] 45) = w1 at *
  obtain ⟨B, hB⟩ : ∃ B, B = w.heap.size := ⟨_, rfl⟩
  rw [← hB] at d0 l0 z0 ⊢
  have HB := Lib.hid hB
  clear hw1 hB BW
  have bw := Lib.hid bw
  (with_reducible refine ⟨?_⟩); (with_reducible refine at_any ?_ ?_); (focus go_simp); refine fun K0 hK => wp_ld45g _ (B + 1) _ _ rfl rfl l0.out (hK _ _ ?_)
  clear hK
  have RB1 := Lib.hid (RB.out w1 bw.out)
  clear RB
  go_wp2_with (first | (with_reducible refine Sm.stop_load59 ?_) | (with_reducible refine Sm.stop_store59 ?_) | (with_reducible refine stop_load45 ?_) | (with_reducible refine stop_store45 ?_))
  refine RB1.out.mono ?_
  rintro e w2 ⟨rfl, xr⟩
  have d0 := Lib.hid (d0.out.ext xr)
  have l0 := Lib.hid (l0.out.ext xr)
  have z0 := Lib.hid (z0.out.ext xr)
  have bw := Lib.hid (Ex.trans bw.out xr)
  clear RB1 xr
  go_wp2_with (first | (with_reducible refine Sm.stop_load59 ?_) | (with_reducible refine Sm.stop_store59 ?_) | (with_reducible refine stop_load45 ?_) | (with_reducible refine stop_store45 ?_))
  (with_reducible refine ⟨?_⟩); (with_reducible refine at_any ?_ ?_); (focus go_simp); refine fun K0 hK => wp_ld45g _ (B + 2) _ _ rfl rfl z0.out (hK _ _ ?_)
  clear hK
  have RL1 := Lib.hid (RL.out w2 bw.out)
  clear RL
  go_wp2_with (first | (with_reducible refine Sm.stop_load59 ?_) | (with_reducible refine Sm.stop_store59 ?_) | (with_reducible refine stop_load45 ?_) | (with_reducible refine stop_store45 ?_))
  refine RL1.out.mono ?_
  rintro e w3 ⟨rfl, xr⟩
  have d0 := Lib.hid (d0.out.ext xr)
  have l0 := Lib.hid (l0.out.ext xr)
  have z0 := Lib.hid (z0.out.ext xr)
  have bw := Lib.hid (Ex.trans bw.out xr)
  clear RL1 xr
  go_wp2_with (first | (with_reducible refine Sm.stop_load59 ?_) | (with_reducible refine Sm.stop_store59 ?_) | (with_reducible refine stop_load45 ?_) | (with_reducible refine stop_store45 ?_))
  go_ret2
  exact ⟨rfl, bw.out⟩
set_option maxHeartbeats 4000000 in
set_option maxRecDepth 100000 in
theorem check_go (C : List UInt8) (hC : C.length = 16) (vb vl : Int) (hv0 : 0 ≤ vl) (hv1 : vl < 18446744073709551616) (pb pl : Pt) (q : Vp) (w : World) (hb : pb.In w w.heap.size) (hl : pl.In w w.heap.size) (hq : q.In w w.heap.size) (hL : q.l.length ≤ 9223372036854775807) (hr : rightB vb pb.l = true) (hs : rightB vl pl.l = true) :
    Calls Try.prog 43 #[digV C, LV vb pb, LV vl pl, q.V] w fun e w' => e = .returned (.tuple #[.int .i64 (cntN C vl pl.l q.l pb.l : Nat), .bool (decide (majI vb pb.l ≤ (cntN C vl pl.l q.l pb.l : Nat)))]) ∧ Below w.heap.size w w' := by
  have KY := Lib.hid (fun (m : Int) (W : World) => (show Calls Try.prog 40 #[digV C, .int .i64 m] W fun e w' => e = .returned (digV (keyL C m)) ∧ Below W.heap.size W w' from Sm.key_any C hC m W))
  have MK := Lib.hid (fun (m : Int) (W : World) (x : Ex w W) => (show Calls Try.prog 56 #[digV (keyL C m), LV vl pl] W fun e w' => e = .returned (.tuple #[digV (markL (keyL C m) vl pl.l), .bool true]) ∧ Below W.heap.size W w' from mark_go (keyL C m) (keyL_len C m) vl hv0 hv1 pl (right_len hs).2.2.2.1 W (hl.ext x) hs))
  have CT := Lib.hid (fun (m : Int) (W : World) (x : Ex w W) => vcontains_any q (m, markL (keyL C m) vl pl.l) (markL_len _ _ _) W (hq.ext x) hL)
  have MJ := Lib.hid (fun (W : World) (x : Ex w W) => maj_any vb pb W (hb.ext x))
  have h8 := (right_len hr).2.2.2.1
  have RDB := Lib.hid (fun (W : World) (x : Ex w W) => (hb.ext x).read)
  have CS := Lib.hid (fun k (h : k < pb.l.length) => (congrArg (cntN C vl pl.l q.l) (take_getD pb.l k h)).trans (cntN_snoc C vl pl.l q.l (pb.l.take k) (pb.l.getD k 0)))
  have CB := Lib.hid (fun k => (show cntN C vl pl.l q.l (pb.l.take k) ≤ k from Nat.le_trans (cntN_le C vl pl.l q.l (pb.l.take k)) (List.length_take_le _ _)))
  obtain ⟨mb, hmb⟩ : ∃ mb : Value, mb = pb.V := ⟨_, rfl⟩
  obtain ⟨ml, hml⟩ : ∃ ml : Value, ml = pl.V := ⟨_, rfl⟩
  have HMB := Lib.hid hmb
  have HML := Lib.hid hml
  have RB := Lib.hid (fun W (h : Ex w W) => (show Calls Try.prog 49 #[.agg #[.int .u64 vb, mb]] W fun e w' => e = .returned (.bool (rightB vb pb.l)) ∧ Below W.heap.size W w' by rw [hmb]; exact right_any vb pb W (hb.ext h)))
  have RL := Lib.hid (fun W (h : Ex w W) => (show Calls Try.prog 49 #[.agg #[.int .u64 vl, ml]] W fun e w' => e = .returned (.bool (rightB vl pl.l)) ∧ Below W.heap.size W w' by rw [hml]; exact right_any vl pl W (hl.ext h)))
  obtain ⟨cs, hcs⟩ : ∃ cs, cs = (Lib.byteCells C).toArray := ⟨_, rfl⟩
  have d0 : Hid (DB (((w.alloc (.cells cs 59)).alloc (.cells #[.int .u64 vb, mb] 45)).alloc (.cells #[.int .u64 vl, ml] 45)) w.heap.size C) := Lib.hid ⟨hC, by rw [hcs]; exact ((Sm.Bk.new rfl _ _).more _).more _⟩
  have l0 : Hid (Bk (((w.alloc (.cells cs 59)).alloc (.cells #[.int .u64 vb, mb] 45)).alloc (.cells #[.int .u64 vl, ml] 45)) (w.heap.size + 1) 45 #[.int .u64 vb, mb]) := Lib.hid ((Bk.new (by simp) _ _).more _)
  have z0 : Hid (Bk (((w.alloc (.cells cs 59)).alloc (.cells #[.int .u64 vb, mb] 45)).alloc (.cells #[.int .u64 vl, ml] 45)) (w.heap.size + 2) 45 #[.int .u64 vl, ml]) := Lib.hid (Bk.new (by simp) _ _)
  have BW := Lib.hid (show Ex w (((w.alloc (.cells cs 59)).alloc (.cells #[.int .u64 vb, mb] 45)).alloc (.cells #[.int .u64 vl, ml] 45)) from (((Below.refl _ _).alloc (Nat.le_refl _) _).alloc (by simp) _).alloc (by simp; omega) _)
  rw [show (Calls Try.prog 43 #[digV C, LV vb pb, LV vl pl, q.V] w) = (Calls Try.prog 43 #[.agg cs, .agg #[.int .u64 vb, mb], .agg #[.int .u64 vl, ml], q.V] w) by rw [hcs, hmb, hml]; rfl]
  obtain ⟨qv, hqv⟩ : ∃ qv, qv = q.V := ⟨_, rfl⟩
  rw [← hqv]
  have HQV := Lib.hid hqv
  rw [hr] at RB
  rw [hs] at RL
  obtain ⟨n, hn⟩ : ∃ n, n = pb.l.length := ⟨_, rfl⟩
  have HN := Lib.hid hn
  rw [← hn] at h8
  obtain ⟨adb, hadb⟩ : ∃ x, x = pb.ad := ⟨_, rfl⟩
  obtain ⟨capb, hcapb⟩ : ∃ x, x = pb.cap := ⟨_, rfl⟩
  have HMS := Lib.hid (show mb = .slice adb n capb by rw [hmb, hadb, hcapb, hn]; rfl)
  have HAD := Lib.hid hadb
  clear hn hadb hcapb
  clear hcs hqv hmb hml hr hs hb hl hq hL hC hv0 hv1
  go_enter Try.func43, Try.ntmps43
  go_wp2_with (first | (with_reducible refine Sm.stop_load59 ?_) | (with_reducible refine Sm.stop_store59 ?_) | (with_reducible refine stop_load45 ?_) | (with_reducible refine stop_store45 ?_))
  have bw := BW.out
  generalize hw1 : ((w.alloc (.cells cs 59)).alloc (.cells #[.int .u64 vb, mb] 45)).alloc (.cells #[.int .u64 vl, ml] 45) = w1 at *
  obtain ⟨B, hB⟩ : ∃ B, B = w.heap.size := ⟨_, rfl⟩
  rw [← hB] at d0 l0 z0 ⊢
  have HB := Lib.hid hB
  clear hw1 hB BW
  have bw := Lib.hid bw
  (with_reducible refine ⟨?_⟩); (with_reducible refine at_any ?_ ?_); (focus go_simp); refine fun K0 hK => wp_ld45g _ (B + 1) _ _ rfl rfl l0.out (hK _ _ ?_)
  clear hK
  have RB1 := Lib.hid (RB.out w1 bw.out)
  clear RB
  go_wp2_with (first | (with_reducible refine Sm.stop_load59 ?_) | (with_reducible refine Sm.stop_store59 ?_) | (with_reducible refine stop_load45 ?_) | (with_reducible refine stop_store45 ?_))
  refine RB1.out.mono ?_
  rintro e w2 ⟨rfl, xr⟩
  have d0 := Lib.hid (d0.out.ext xr)
  have l0 := Lib.hid (l0.out.ext xr)
  have z0 := Lib.hid (z0.out.ext xr)
  have bw := Lib.hid (Ex.trans bw.out xr)
  clear RB1 xr
  go_wp2_with (first | (with_reducible refine Sm.stop_load59 ?_) | (with_reducible refine Sm.stop_store59 ?_) | (with_reducible refine stop_load45 ?_) | (with_reducible refine stop_store45 ?_))
  (with_reducible refine ⟨?_⟩); (with_reducible refine at_any ?_ ?_); (focus go_simp); refine fun K0 hK => wp_ld45g _ (B + 2) _ _ rfl rfl z0.out (hK _ _ ?_)
  clear hK
  have RL1 := Lib.hid (RL.out w2 bw.out)
  clear RL
  go_wp2_with (first | (with_reducible refine Sm.stop_load59 ?_) | (with_reducible refine Sm.stop_store59 ?_) | (with_reducible refine stop_load45 ?_) | (with_reducible refine stop_store45 ?_))
  refine RL1.out.mono ?_
  rintro e w3 ⟨rfl, xr⟩
  have d0 := Lib.hid (d0.out.ext xr)
  have l0 := Lib.hid (l0.out.ext xr)
  have z0 := Lib.hid (z0.out.ext xr)
  have bw := Lib.hid (Ex.trans bw.out xr)
  clear RL1 xr
  have c1 : w3.cell? ⟨B + 1, 1, none⟩ = some mb := l0.out.cell 1
  rw [HMS.out] at c1
  go_wp2_with (first | (with_reducible refine Sm.stop_load59 ?_) | (with_reducible refine Sm.stop_store59 ?_) | (with_reducible refine stop_load45 ?_) | (with_reducible refine stop_store45 ?_))
  clear c1
  have CZ : cntN C vl pl.l q.l (pb.l.take 0) = 0 := rfl
  go_loopw [10, 26] (fun c i wr => ∃ (k : Nat), k ≤ n ∧ i = .int .i64 k ∧ c = .int .i64 (cntN C vl pl.l q.l (pb.l.take k) : Nat) ∧ Hid (DB wr B C) ∧ Hid (Bk wr (B + 1) 45 #[.int .u64 vb, mb]) ∧ Hid (Bk wr (B + 2) 45 #[.int .u64 vl, ml]) ∧ Hid (Ex w wr)) (fun _ i _ => n - (intOf i).toNat)
  case atStart => exact ⟨0, by omega, rfl, rfl, d0, l0, z0, bw⟩
  case round =>
    clear d0 l0 z0 bw CZ
    obtain ⟨k, hk, rfl, rfl, d0, l0, z0, bw⟩ := hrel
    by_cases hlt : k < n
    · obtain ⟨a9, o9, e, ha, hc⟩ := RDB.out wr bw.out (by rw [← HN.out]; omega)
      rw [← HAD.out] at e
      subst e
      rw [← HN.out] at hc
      have cx := hc k hlt
      have q0 : (0 : Int) ≤ (k : Int) := by omega
      have q1 : (k : Int) < (n : Int) := by omega
      have cs1 := CS.out k (by rw [← HN.out]; exact hlt)
      have cb := CB.out k
      obtain ⟨m, hm⟩ : ∃ m, m = pb.l.getD k 0 := ⟨_, rfl⟩
      rw [← hm] at cx cs1
      obtain ⟨cn, hcn⟩ : ∃ cn, cn = cntN C vl pl.l q.l (pb.l.take k) := ⟨_, rfl⟩
      rw [← hcn] at cs1 cb ⊢
      have CS1 := Lib.hid cs1
      clear hc hm hcn cs1 ha
      go_wp2_with (first | (with_reducible refine Sm.stop_load59 ?_) | (with_reducible refine Sm.stop_store59 ?_) | (with_reducible refine stop_load45 ?_) | (with_reducible refine stop_store45 ?_))
      obtain ⟨T, hT⟩ : ∃ T : List (Option Value), T = [some (digV C), some (.int .i64 m), some (digV (keyL C m)), some (.agg #[.int .u64 vl, ml]), some (.tuple #[digV (markL (keyL C m) vl pl.l), .bool true]), some (.tuple #[digV (markL (keyL C m) vl pl.l), .bool true]), some (digV (markL (keyL C m) vl pl.l)), some (.bool true), none, none, some (.bool true)] := ⟨_, rfl⟩
      refine wp_region_gen (JL wr T 8 9 59 zero16 (Lib.byteCells (markL (keyL C m) vl pl.l)).toArray) (by kernel_rfl) (by kernel_rfl) (by kernel_rfl) (fitB_spec (by kernel_rfl)) (fun listed f h => JL.start _ listed f h) ?_ ?_
      · intro i o ho
        have hi : i < 11 := (Array.getElem?_eq_some_iff.1 ho).1
        have hi' : i = 0 ∨ i = 1 ∨ i = 2 ∨ i = 3 ∨ i = 4 ∨ i = 5 ∨ i = 6 ∨ i = 7 ∨ i = 8 ∨ i = 9 ∨ i = 10 := by omega
        clear hi
        rcases hi' with rfl | rfl | rfl | rfl | rfl | rfl | rfl | rfl | rfl | rfl | rfl
        all_goals (simp only [List.getElem?_toArray, List.getElem?_cons_zero, List.getElem?_cons_succ, Option.some.injEq] at ho; subst ho; intro listed f a w2 hJ hsz hls hun hdep hout hlat)
        · rw [if_pos (by rfl)]
          intro K hK
          have q4 := hout 4 (outB_spec (by kernel_rfl))
          exact Sm.wp_ld _ B C rfl q4 (d0.out.ext hJ.ext) (hK _ _ (hJ.plain (by decide) (by decide) (Ex.refl _) (fun x hx => by rw [hT] at hx; simpa using hx)))
        · rw [if_pos (by rfl)]
          intro K hK
          have q12 := hout 12 (outB_spec (by kernel_rfl))
          refine wp_mv _ rfl (hK _ _ ?_)
          rw [show a.eval (.tmp 12) = .int .i64 m from q12]
          exact hJ.plain (by decide) (by decide) (Ex.refl _) (fun x hx => by rw [hT] at hx; simpa using hx)
        · rw [if_pos (by rfl)]
          intro K hK
          have q31 := (hdep ⟨0, .data⟩ (by simp) rfl).2 _ rfl _ rfl
          rw [show f 0 = _ from hJ.vals 0 (hdep ⟨0, .data⟩ (by simp) rfl).1 (digV C) (by rw [hT]; rfl)] at q31
          have q32 := (hdep ⟨1, .data⟩ (by simp) rfl).2 _ rfl _ rfl
          rw [show f 1 = _ from hJ.vals 1 (hdep ⟨1, .data⟩ (by simp) rfl).1 (.int .i64 m) (by rw [hT]; rfl)] at q32
          rw [Array.getD_eq_getD_getElem?] at q31
          rw [Array.getD_eq_getD_getElem?] at q32
          clear hsz hdep hout hlat
          go_simp
          refine (KY.out m w2).mono ?_
          rintro e w3 ⟨rfl, xq⟩
          exact hK _ _ (hJ.plain (by decide) (by decide) xq (fun x hx => by rw [hT] at hx; simpa using hx))
        · rw [if_pos (by rfl)]
          intro K hK
          have q6 := hout 6 (outB_spec (by kernel_rfl))
          refine wp_ld45g _ (B + 2) _ _ rfl q6 (z0.out.ext hJ.ext) (hK _ _ (hJ.plain (by decide) (by decide) (Ex.refl _) (fun x hx => by rw [hT] at hx; simpa using hx)))
        · rw [if_pos (by rfl)]
          intro K hK
          have q33 := (hdep ⟨2, .data⟩ (by simp) rfl).2 _ rfl _ rfl
          rw [show f 2 = _ from hJ.vals 2 (hdep ⟨2, .data⟩ (by simp) rfl).1 (digV (keyL C m)) (by rw [hT]; rfl)] at q33
          have q34 := (hdep ⟨3, .data⟩ (by simp) rfl).2 _ rfl _ rfl
          rw [show f 3 = _ from hJ.vals 3 (hdep ⟨3, .data⟩ (by simp) rfl).1 (.agg #[.int .u64 vl, ml]) (by rw [hT]; rfl)] at q34
          rw [Array.getD_eq_getD_getElem?] at q33
          rw [Array.getD_eq_getD_getElem?] at q34
          have cm := Lib.hid (MK.out m w2 (Ex.trans bw.out hJ.ext))
          unfold LV at cm
          clear hsz hdep hout hlat
          go_simp
          rw [show pl.V = ml from HML.out.symm] at cm
          refine cm.out.mono ?_
          rintro e w3 ⟨rfl, xq⟩
          exact hK _ _ (hJ.plain (by decide) (by decide) xq (fun x hx => by rw [hT] at hx; simpa using hx))
        · rw [if_pos (by rfl)]
          intro K hK
          have q35 := (hdep ⟨4, .data⟩ (by simp) rfl).2 _ rfl _ rfl
          rw [show f 4 = _ from hJ.vals 4 (hdep ⟨4, .data⟩ (by simp) rfl).1 (.tuple #[digV (markL (keyL C m) vl pl.l), .bool true]) (by rw [hT]; rfl)] at q35
          refine wp_mv _ rfl (hK _ _ ?_)
          rw [show a.eval (.tmp 35) = .tuple #[digV (markL (keyL C m) vl pl.l), .bool true] from q35]
          exact hJ.plain (by decide) (by decide) (Ex.refl _) (fun x hx => by rw [hT] at hx; simpa using hx)
        · rw [if_pos (by rfl)]
          intro K hK
          have q30 := (hdep ⟨5, .data⟩ (by simp) rfl).2 _ rfl _ rfl
          rw [show f 5 = _ from hJ.vals 5 (hdep ⟨5, .data⟩ (by simp) rfl).1 (.tuple #[digV (markL (keyL C m) vl pl.l), .bool true]) (by rw [hT]; rfl)] at q30
          rw [Array.getD_eq_getD_getElem?] at q30
          clear hsz hdep hout hlat
          go_simp
          exact hK _ _ (hJ.plain (by decide) (by decide) (Ex.refl _) (fun x hx => by rw [hT] at hx; simpa using hx))
        · rw [if_pos (by rfl)]
          intro K hK
          have q30 := (hdep ⟨5, .data⟩ (by simp) rfl).2 _ rfl _ rfl
          rw [show f 5 = _ from hJ.vals 5 (hdep ⟨5, .data⟩ (by simp) rfl).1 (.tuple #[digV (markL (keyL C m) vl pl.l), .bool true]) (by rw [hT]; rfl)] at q30
          rw [Array.getD_eq_getD_getElem?] at q30
          clear hsz hdep hout hlat
          go_simp
          exact hK _ _ (hJ.plain (by decide) (by decide) (Ex.refl _) (fun x hx => by rw [hT] at hx; simpa using hx))
        · rw [if_pos (by rfl)]
          intro K hK
          clear hsz hdep hout hlat
          go_simp
          exact hK _ _ (hJ.alloc (by decide) hun (by rw [hT]; rfl))
        · rw [if_pos (by rfl)]
          intro K hK
          have q13 := (hdep ⟨8, .data⟩ (by simp) rfl).2 _ rfl _ rfl
          have q36 := (hdep ⟨6, .data⟩ (by simp) rfl).2 _ rfl _ rfl
          rw [show f 6 = _ from hJ.vals 6 (hdep ⟨6, .data⟩ (by simp) rfl).1 (digV (markL (keyL C m) vl pl.l)) (by rw [hT]; rfl)] at q36
          obtain ⟨g, hg, hgb, hB⟩ := hJ.loc (hdep ⟨8, .data⟩ (by simp) rfl).1
          rw [hg] at q13
          have l9 : listed.getD 9 false = false := hun
          rw [l9, if_neg (by decide)] at hB
          refine Sm.wp_st _ _ g _ rfl q13 q36 (markL_len _ _ _) hB rfl (fun w' hd ho => hK _ _ ?_)
          exact hJ.store (by decide) (hdep ⟨8, .data⟩ (by simp) rfl).1 (by rw [hls]; decide) (by rw [hT]; rfl) hg hgb hd.2 ⟨ho.below, ho.other, ho.size⟩
        · rw [if_pos (by rfl)]
          intro K hK
          have q37 := (hdep ⟨7, .data⟩ (by simp) rfl).2 _ rfl _ rfl
          rw [show f 7 = _ from hJ.vals 7 (hdep ⟨7, .data⟩ (by simp) rfl).1 (.bool true) (by rw [hT]; rfl)] at q37
          rw [Array.getD_eq_getD_getElem?] at q37
          clear hsz hdep hout hlat
          go_simp
          exact hK _ _ (hJ.plain (by decide) (by decide) (Ex.refl _) (fun x hx => by rw [hT] at hx; simpa using hx))
      · intro listed f w2 hall hJ
        have f0 : f 0 = digV C := hJ.vals 0 (hall 0 (by simp)) _ (by rw [hT]; rfl)
        have f1 : f 1 = .int .i64 m := hJ.vals 1 (hall 1 (by simp)) _ (by rw [hT]; rfl)
        have f2 : f 2 = digV (keyL C m) := hJ.vals 2 (hall 2 (by simp)) _ (by rw [hT]; rfl)
        have f3 : f 3 = .agg #[.int .u64 vl, ml] := hJ.vals 3 (hall 3 (by simp)) _ (by rw [hT]; rfl)
        have f4 : f 4 = .tuple #[digV (markL (keyL C m) vl pl.l), .bool true] := hJ.vals 4 (hall 4 (by simp)) _ (by rw [hT]; rfl)
        have f5 : f 5 = .tuple #[digV (markL (keyL C m) vl pl.l), .bool true] := hJ.vals 5 (hall 5 (by simp)) _ (by rw [hT]; rfl)
        have f6 : f 6 = digV (markL (keyL C m) vl pl.l) := hJ.vals 6 (hall 6 (by simp)) _ (by rw [hT]; rfl)
        have f7 : f 7 = .bool true := hJ.vals 7 (hall 7 (by simp)) _ (by rw [hT]; rfl)
        have f10 : f 10 = .bool true := hJ.vals 10 (hall 10 (by simp)) _ (by rw [hT]; rfl)
        obtain ⟨g, f8, gb, bg⟩ := hJ.loc (hall 8 (by simp))
        rw [if_pos (hall 9 (by simp))] at bg
        have xw := hJ.ext
        simp only [putAll, Act.put, List.setIfInBounds_toArray, List.set_cons_zero, List.set_cons_succ, Nat.zero_add, Nat.reduceAdd]
        rw [f0, f1, f2, f3, f4, f5, f6, f7, f8, f10]
        clear f0 f1 f2 f3 f4 f5 f6 f7 f8 f10 hJ hall hT
        have bg := Lib.hid bg
        have d0 := Lib.hid (d0.out.ext xw)
        have l0 := Lib.hid (l0.out.ext xw)
        have z0 := Lib.hid (z0.out.ext xw)
        have bw := Lib.hid (Ex.trans bw.out xw)
        clear xw gb
        go_wp2_with (first | (with_reducible refine stop_build88 ?_) | (with_reducible refine Sm.stop_load59 ?_) | (with_reducible refine Sm.stop_store59 ?_) | (with_reducible refine stop_load45 ?_) | (with_reducible refine stop_store45 ?_))
        (with_reducible refine ⟨?_⟩); (with_reducible refine at_any ?_ ?_); (focus go_simp); refine fun K0 hK => Sm.wp_ld _ g (markL (keyL C m) vl pl.l) rfl rfl ⟨markL_len _ _ _, bg.out⟩ (hK _ _ ?_)
        clear hK
        go_wp2_with (first | (with_reducible refine stop_build88 ?_) | (with_reducible refine Sm.stop_load59 ?_) | (with_reducible refine Sm.stop_store59 ?_) | (with_reducible refine stop_load45 ?_) | (with_reducible refine stop_store45 ?_))
        (with_reducible refine ⟨?_⟩); (with_reducible refine at_any ?_ ?_); (focus go_simp); refine fun K0 hK => wp_build88 _ _ m (markL (keyL C m) vl pl.l) (markL_len _ _ _) rfl rfl rfl (hK _ _ ?_)
        clear hK
        have CT1 := Lib.hid (CT.out m w2 bw.out)
        obtain ⟨vv, hvv⟩ : ∃ vv, vv = voV (m, markL (keyL C m) vl pl.l) := ⟨_, rfl⟩
        rw [← hvv, ← HQV.out] at CT1
        rw [← hvv]
        obtain ⟨yes, hyes⟩ : ∃ yes, yes = decide ((m, markL (keyL C m) vl pl.l) ∈ q.l) := ⟨_, rfl⟩
        rw [← hyes] at CT1 CS1
        clear hvv hyes bg
        go_wp2_with (first | (with_reducible refine stop_build88 ?_) | (with_reducible refine Sm.stop_load59 ?_) | (with_reducible refine Sm.stop_store59 ?_) | (with_reducible refine stop_load45 ?_) | (with_reducible refine stop_store45 ?_))
        refine CT1.out.mono ?_
        rintro e w3 ⟨rfl, xr⟩
        have d0 := Lib.hid (d0.out.ext xr)
        have l0 := Lib.hid (l0.out.ext xr)
        have z0 := Lib.hid (z0.out.ext xr)
        have bw := Lib.hid (Ex.trans bw.out xr)
        clear CT1 xr
        cases yes
        · go_wp2_with (first | (with_reducible refine stop_build88 ?_) | (with_reducible refine Sm.stop_load59 ?_) | (with_reducible refine Sm.stop_store59 ?_) | (with_reducible refine stop_load45 ?_) | (with_reducible refine stop_store45 ?_))
          go_roundw
          case rel => exact ⟨k + 1, by omega, by go_num, by rw [CS1.out]; rfl, d0, l0, z0, bw⟩
          case measure => simp [intOf]; omega
        · go_wp2_with (first | (with_reducible refine stop_build88 ?_) | (with_reducible refine Sm.stop_load59 ?_) | (with_reducible refine Sm.stop_store59 ?_) | (with_reducible refine stop_load45 ?_) | (with_reducible refine stop_store45 ?_))
          go_roundw
          case rel => exact ⟨k + 1, by omega, by go_num, by rw [CS1.out]; simp only [if_true]; go_num, d0, l0, z0, bw⟩
          case measure => simp [intOf]; omega
    · obtain rfl : k = n := by omega
      have TK := Lib.hid (show pb.l.take k = pb.l by rw [HN.out, List.take_length])
      rw [TK.out]
      obtain ⟨cn, hcn⟩ : ∃ cn, cn = cntN C vl pl.l q.l pb.l := ⟨_, rfl⟩
      rw [← hcn]
      have HCN := Lib.hid hcn
      clear hcn
      go_wp2_with (first | (with_reducible refine Sm.stop_load59 ?_) | (with_reducible refine Sm.stop_store59 ?_) | (with_reducible refine stop_load45 ?_) | (with_reducible refine stop_store45 ?_))
      (with_reducible refine ⟨?_⟩); (with_reducible refine at_any ?_ ?_); (focus go_simp); refine fun K0 hK => wp_ld45g _ (B + 1) _ _ rfl rfl l0.out (hK _ _ ?_)
      clear hK
      have MJ1 := Lib.hid (MJ.out wr bw.out)
      unfold LV at MJ1
      rw [show pb.V = mb from HMB.out.symm] at MJ1
      go_wp2_with (first | (with_reducible refine Sm.stop_load59 ?_) | (with_reducible refine Sm.stop_store59 ?_) | (with_reducible refine stop_load45 ?_) | (with_reducible refine stop_store45 ?_))
      refine MJ1.out.mono ?_
      rintro e w3 ⟨rfl, xr⟩
      have bw := Lib.hid (Ex.trans bw.out xr)
      clear MJ1 xr
      go_wp2_with (first | (with_reducible refine Sm.stop_load59 ?_) | (with_reducible refine Sm.stop_store59 ?_) | (with_reducible refine stop_load45 ?_) | (with_reducible refine stop_store45 ?_))
      go_ret2
      exact ⟨ret_eq (by rw [HCN.out]; rfl), bw.out⟩
def chkN (C : List UInt8) (vb : Int) (bl : List Int) (vl : Int) (ll : List Int) (vs : List (Int × List UInt8)) : Nat := if (rightB vb bl && rightB vl ll) = true then cntN C vl ll vs bl else 0
def chkB (C : List UInt8) (vb : Int) (bl : List Int) (vl : Int) (ll : List Int) (vs : List (Int × List UInt8)) : Bool := (rightB vb bl && rightB vl ll) && decide (majI vb bl ≤ (cntN C vl ll vs bl : Nat))
theorem check_any (C : List UInt8) (hC : C.length = 16) (vb vl : Int) (hv0 : 0 ≤ vl) (hv1 : vl < 18446744073709551616) (pb pl : Pt) (q : Vp) (w : World) (hb : pb.In w w.heap.size) (hl : pl.In w w.heap.size) (hq : q.In w w.heap.size) (hL : q.l.length ≤ 9223372036854775807) :
    Calls Try.prog 43 #[digV C, LV vb pb, LV vl pl, q.V] w fun e w' => e = .returned (.tuple #[.int .i64 (chkN C vb pb.l vl pl.l q.l : Nat), .bool (chkB C vb pb.l vl pl.l q.l)]) ∧ Below w.heap.size w w' := by
  unfold chkN chkB
  cases h1 : rightB vb pb.l
  · exact check_no1 C hC vb vl hv0 hv1 pb pl q w hb hl hq hL h1
  · cases h2 : rightB vl pl.l
    · exact check_no2 C hC vb vl hv0 hv1 pb pl q w hb hl hq hL h1 h2
    · exact check_go C hC vb vl hv0 hv1 pb pl q w hb hl hq hL h1 h2
end Go.Proofs.Ytgoiidpcdifojaa
