/- the statements' own check -/
import Derived.Test.YtgoiidpcdifojaaEf
namespace Go.Proofs.Ytgoiidpcdifojaa
open Go.RowKit
open Sm (digV DB by8 sumL numL zero16 by8_int Cls cls_load_mid wp_region_cls byteCells_len)
theorem stop_store88 {P : Program} {ops : Array Oper} {rest : List Oper} {d : Option Tmp} {x y : Operand} {t2 : TypeId} {pos : String} {af : Array Edge} {g : Option (Nat × Bool)} {a : Act} {w : World} {Q : Exit → Act → World → Prop}
    (k : Stop (wpList P ops Q ({ dst := d, op := .store 88 x y, type := t2, pos := pos, after := af, guard := g } :: rest) a w)) : wpList P ops Q ({ dst := d, op := .store 88 x y, type := t2, pos := pos, after := af, guard := g } :: rest) a w := k.go
theorem wp_st88 {o : Oper} {a : Act} {w : World} {K : Act → World → Prop} {Q : Exit → Act → World → Prop} (x y : Operand) (g : Nat) (z : Int × List UInt8) (hz : z.2.length = 16) (ho : o.op = .store 88 x y) (ha : a.eval x = .pointer (some ⟨g, 0, none⟩)) (hy : a.eval y = voV z)
    {cs : Array Value} (hB : Bk w g 88 cs) (hs : cs.size = 17) (hk : ∀ w', Bk w' g 88 (voC z).toArray → Only g w w' → K (a.put o.dst undef) w') : o.wp Try.prog a w K Q := by
  have hl : (voC z).toArray.size = 17 := by simp [voC_len hz]
  refine wp_store_mid 88 x y ho g 0 (voC z).toArray ha hy (Bk.there hB 0 _ (by omega)) (by rw [Try.size88, hl]) ?_ (hk _ ?_ ?_)
  · exact all_oneCell_toArray (voC_one z)
  · exact rowAll (ds := (voC z).toArray) hB (by omega)
  · exact Only.setCells g _ 0 w
theorem wp_ldd {o : Oper} {a : Act} {w : World} {K : Act → World → Prop} {Q : Exit → Act → World → Prop} (x : Operand) (b off : Nat) (X : List UInt8) (hX : X.length = 16) (ho : o.op = .load 59 x) (ha : a.eval x = .pointer (some ⟨b, off, none⟩)) (h : w.rangeAt b off (Lib.byteCells X)) (hk : K (a.put o.dst (digV X)) w) : o.wp Try.prog a w K Q := by
  obtain ⟨dd, hd⟩ : ∃ d, Try.prog.underlying 59 = some d ∧ d.isRow = true := ⟨_, Try.underlying59, rfl⟩
  exact wp_load_mid 59 x ho b off ha (Lib.byteCells X) dd h hd.1 hd.2 (by rw [Sm.sm_dsize, Sm.cells16 hX]) hk
theorem wp_ld88 {o : Oper} {a : Act} {w : World} {K : Act → World → Prop} {Q : Exit → Act → World → Prop} (x : Operand) (b off : Nat) (z : Int × List UInt8) (hz : z.2.length = 16) (ho : o.op = .load 88 x) (ha : a.eval x = .pointer (some ⟨b, off, none⟩)) (h : w.rangeAt b off (voC z)) (hk : K (a.put o.dst (voV z)) w) : o.wp Try.prog a w K Q :=
  wp_load_mid 88 x ho b off ha (voC z) _ h Try.underlying88 rfl (by rw [Try.size88, voC_len hz]) hk
set_option maxHeartbeats 4000000 in
set_option maxRecDepth 100000 in
theorem rcheck_no1 (C : List UInt8) (hC : C.length = 16) (vb vl : Int) (hv0 : 0 ≤ vl) (hv1 : vl < 18446744073709551616) (pb pl : Pt) (q : Vp) (w : World) (hb : pb.In w w.heap.size) (hl : pl.In w w.heap.size) (hq : q.In w w.heap.size) (hL : q.l.length ≤ 9223372036854775807) (hr : rightB vb pb.l = false) :
    Calls Try.prog 54 #[digV C, LV vb pb, LV vl pl, q.V] w fun e w' => e = .returned (.tuple #[.int .i64 0, .bool false]) ∧ Below w.heap.size w w' := by
  obtain ⟨mb, hmb⟩ : ∃ mb : Value, mb = pb.V := ⟨_, rfl⟩
  obtain ⟨ml, hml⟩ : ∃ ml : Value, ml = pl.V := ⟨_, rfl⟩
  have HMB := Lib.hid hmb
  have HML := Lib.hid hml
  have RB := Lib.hid (fun W (h : Ex w W) => (show Calls Try.prog 49 #[.agg #[.int .u64 vb, mb]] W fun e w' => e = .returned (.bool (rightB vb pb.l)) ∧ Below W.heap.size W w' by rw [hmb]; exact right_any vb pb W (hb.ext h)))
  have RL := Lib.hid (fun W (h : Ex w W) => (show Calls Try.prog 49 #[.agg #[.int .u64 vl, ml]] W fun e w' => e = .returned (.bool (rightB vl pl.l)) ∧ Below W.heap.size W w' by rw [hml]; exact right_any vl pl W (hl.ext h)))
  obtain ⟨cs, hcs⟩ : ∃ cs, cs = (Lib.byteCells C).toArray := ⟨_, rfl⟩
  have d0 : Hid (DB (((w.alloc (.cells cs 59)).alloc (.cells #[.int .u64 vb, mb] 45)).alloc (.cells #[.int .u64 vl, ml] 45)) w.heap.size C) := Lib.hid ⟨hC, by rw [hcs]; exact ((Sm.Bk.new rfl _ _).more _).more _⟩
  have l0 : Hid (Bk (((w.alloc (.cells cs 59)).alloc (.cells #[.int .u64 vb, mb] 45)).alloc (.cells #[.int .u64 vl, ml] 45)) (w.heap.size + 1) 45 #[.int .u64 vb, mb]) := Lib.hid ((Bk.new (by simp) _ _).more _)
  have z0 : Hid (Bk (((w.alloc (.cells cs 59)).alloc (.cells #[.int .u64 vb, mb] 45)).alloc (.cells #[.int .u64 vl, ml] 45)) (w.heap.size + 2) 45 #[.int .u64 vl, ml]) := Lib.hid (Bk.new (by simp) _ _)
  have BW := Lib.hid (show Ex w (((w.alloc (.cells cs 59)).alloc (.cells #[.int .u64 vb, mb] 45)).alloc (.cells #[.int .u64 vl, ml] 45)) from (((Below.refl _ _).alloc (Nat.le_refl _) _).alloc (by simp) _).alloc (by simp; omega) _)
  rw [show (Calls Try.prog 54 #[digV C, LV vb pb, LV vl pl, q.V] w) = (Calls Try.prog 54 #[.agg cs, .agg #[.int .u64 vb, mb], .agg #[.int .u64 vl, ml], q.V] w) by rw [hcs, hmb, hml]; rfl]
  obtain ⟨qv, hqv⟩ : ∃ qv, qv = q.V := ⟨_, rfl⟩
  rw [← hqv]
  have HQV := Lib.hid hqv
  rw [hr] at RB
  clear hcs hqv hmb hml hr hb hl hq hL hC hv0 hv1 RL
  go_enter Try.func54, Try.ntmps54
  go_wp2_with (first | (with_reducible refine Sm.stop_load59 ?_) | (with_reducible refine Sm.stop_store59 ?_) | (with_reducible refine stop_load45 ?_) | (with_reducible refine stop_store45 ?_))
  have bw := BW.out
  generalize hw1 : ((w.alloc (.cells cs 59)).alloc (.cells #[.int .u64 vb, mb] 45)).alloc (.cells #[.int .u64 vl, ml] 45) = w1 at *
  obtain ⟨B, hB⟩ : ∃ B, B = w.heap.size := ⟨_, rfl⟩
  rw [← hB] at d0 l0 z0 ⊢
  have HB := Lib.hid hB
  clear hw1 hB BW
  have bw := Lib.hid bw
  (with_reducible refine ⟨?_⟩); (with_reducible refine at_any ?_ ?_); (focus go_simp); refine fun K0 hK => wp_ld45g _ (B + 1) _ _ rfl rfl l0.out (hK _ _ ?_)
  clear hK
  have RB1 := Lib.hid (RB.out w1 bw.out)
  clear RB
  go_wp2_with (first | (with_reducible refine Sm.stop_load59 ?_) | (with_reducible refine Sm.stop_store59 ?_) | (with_reducible refine stop_load45 ?_) | (with_reducible refine stop_store45 ?_))
  refine RB1.out.mono ?_
  rintro e w2 ⟨rfl, xr⟩
  have d0 := Lib.hid (d0.out.ext xr)
  have l0 := Lib.hid (l0.out.ext xr)
  have z0 := Lib.hid (z0.out.ext xr)
  have bw := Lib.hid (Ex.trans bw.out xr)
  clear RB1 xr
  go_wp2_with (first | (with_reducible refine Sm.stop_load59 ?_) | (with_reducible refine Sm.stop_store59 ?_) | (with_reducible refine stop_load45 ?_) | (with_reducible refine stop_store45 ?_))
  (with_reducible refine ⟨?_⟩); (with_reducible refine at_not ?_ ?_); (focus go_simp)
  go_wp2_with (first | (with_reducible refine Sm.stop_load59 ?_) | (with_reducible refine Sm.stop_store59 ?_) | (with_reducible refine stop_load45 ?_) | (with_reducible refine stop_store45 ?_))
  go_ret2
  exact ⟨rfl, bw.out⟩
set_option maxHeartbeats 4000000 in
set_option maxRecDepth 100000 in
theorem rcheck_no2 (C : List UInt8) (hC : C.length = 16) (vb vl : Int) (hv0 : 0 ≤ vl) (hv1 : vl < 18446744073709551616) (pb pl : Pt) (q : Vp) (w : World) (hb : pb.In w w.heap.size) (hl : pl.In w w.heap.size) (hq : q.In w w.heap.size) (hL : q.l.length ≤ 9223372036854775807) (hr : rightB vb pb.l = true) (hs : rightB vl pl.l = false) :
    Calls Try.prog 54 #[digV C, LV vb pb, LV vl pl, q.V] w fun e w' => e = .returned (.tuple #[.int .i64 0, .bool false]) ∧ Below w.heap.size w w' := by
  obtain ⟨mb, hmb⟩ : ∃ mb : Value, mb = pb.V := ⟨_, rfl⟩
  obtain ⟨ml, hml⟩ : ∃ ml : Value, ml = pl.V := ⟨_, rfl⟩
  have HMB := Lib.hid hmb
  have HML := Lib.hid hml
  have RB := Lib.hid (fun W (h : Ex w W) => (show Calls Try.prog 49 #[.agg #[.int .u64 vb, mb]] W fun e w' => e = .returned (.bool (rightB vb pb.l)) ∧ Below W.heap.size W w' by rw [hmb]; exact right_any vb pb W (hb.ext h)))
  have RL := Lib.hid (fun W (h : Ex w W) => (show Calls Try.prog 49 #[.agg #[.int .u64 vl, ml]] W fun e w' => e = .returned (.bool (rightB vl pl.l)) ∧ Below W.heap.size W w' by rw [hml]; exact right_any vl pl W (hl.ext h)))
  obtain ⟨cs, hcs⟩ : ∃ cs, cs = (Lib.byteCells C).toArray := ⟨_, rfl⟩
  have d0 : Hid (DB (((w.alloc (.cells cs 59)).alloc (.cells #[.int .u64 vb, mb] 45)).alloc (.cells #[.int .u64 vl, ml] 45)) w.heap.size C) := Lib.hid ⟨hC, by rw [hcs]; exact ((Sm.Bk.new rfl _ _).more _).more _⟩
  have l0 : Hid (Bk (((w.alloc (.cells cs 59)).alloc (.cells #[.int .u64 vb, mb] 45)).alloc (.cells #[.int .u64 vl, ml] 45)) (w.heap.size + 1) 45 #[.int .u64 vb, mb]) := Lib.hid ((Bk.new (by simp) _ _).more _)
  have z0 : Hid (Bk (((w.alloc (.cells cs 59)).alloc (.cells #[.int .u64 vb, mb] 45)).alloc (.cells #[.int .u64 vl, ml] 45)) (w.heap.size + 2) 45 #[.int .u64 vl, ml]) := Lib.hid (Bk.new (by simp) _ _)
  have BW := Lib.hid (show Ex w (((w.alloc (.cells cs 59)).alloc (.cells #[.int .u64 vb, mb] 45)).alloc (.cells #[.int .u64 vl, ml] 45)) from (((Below.refl _ _).alloc (Nat.le_refl _) _).alloc (by simp) _).alloc (by simp; omega) _)
  rw [show (Calls Try.prog 54 #[digV C, LV vb pb, LV vl pl, q.V] w) = (Calls Try.prog 54 #[.agg cs, .agg #[.int .u64 vb, mb], .agg #[.int .u64 vl, ml], q.V] w) by rw [hcs, hmb, hml]; rfl]
  obtain ⟨qv, hqv⟩ : ∃ qv, qv = q.V := ⟨_, rfl⟩
  rw [← hqv]
  have HQV := Lib.hid hqv
  rw [hr] at RB
  rw [hs] at RL
  clear hcs hqv hmb hml hr hs hb hl hq hL hC hv0 hv1
  go_enter Try.func54, Try.ntmps54
  go_wp2_with (first | (with_reducible refine Sm.stop_load59 ?_) | (with_reducible refine Sm.stop_store59 ?_) | (with_reducible refine stop_load45 ?_) | (with_reducible refine stop_store45 ?_))
  have bw := BW.out
  generalize hw1 : ((w.alloc (.cells cs 59)).alloc (.cells #[.int .u64 vb, mb] 45)).alloc (.cells #[.int .u64 vl, ml] 45) = w1 at *
  obtain ⟨B, hB⟩ : ∃ B, B = w.heap.size := ⟨_, rfl⟩
  rw [← hB] at d0 l0 z0 ⊢
  have HB := Lib.hid hB
  clear hw1 hB BW
  have bw := Lib.hid bw
  (with_reducible refine ⟨?_⟩); (with_reducible refine at_any ?_ ?_); (focus go_simp); refine fun K0 hK => wp_ld45g _ (B + 1) _ _ rfl rfl l0.out (hK _ _ ?_)
  clear hK
  have RB1 := Lib.hid (RB.out w1 bw.out)
  clear RB
  go_wp2_with (first | (with_reducible refine Sm.stop_load59 ?_) | (with_reducible refine Sm.stop_store59 ?_) | (with_reducible refine stop_load45 ?_) | (with_reducible refine stop_store45 ?_))
  refine RB1.out.mono ?_
  rintro e w2 ⟨rfl, xr⟩
  have d0 := Lib.hid (d0.out.ext xr)
  have l0 := Lib.hid (l0.out.ext xr)
  have z0 := Lib.hid (z0.out.ext xr)
  have bw := Lib.hid (Ex.trans bw.out xr)
  clear RB1 xr
  go_wp2_with (first | (with_reducible refine Sm.stop_load59 ?_) | (with_reducible refine Sm.stop_store59 ?_) | (with_reducible refine stop_load45 ?_) | (with_reducible refine stop_store45 ?_))
  (with_reducible refine ⟨?_⟩); (with_reducible refine at_any ?_ ?_); (focus go_simp); refine fun K0 hK => wp_ld45g _ (B + 2) _ _ rfl rfl z0.out (hK _ _ ?_)
  clear hK
  have RL1 := Lib.hid (RL.out w2 bw.out)
  clear RL
  go_wp2_with (first | (with_reducible refine Sm.stop_load59 ?_) | (with_reducible refine Sm.stop_store59 ?_) | (with_reducible refine stop_load45 ?_) | (with_reducible refine stop_store45 ?_))
  refine RL1.out.mono ?_
  rintro e w3 ⟨rfl, xr⟩
  have d0 := Lib.hid (d0.out.ext xr)
  have l0 := Lib.hid (l0.out.ext xr)
  have z0 := Lib.hid (z0.out.ext xr)
  have bw := Lib.hid (Ex.trans bw.out xr)
  clear RL1 xr
  go_wp2_with (first | (with_reducible refine Sm.stop_load59 ?_) | (with_reducible refine Sm.stop_store59 ?_) | (with_reducible refine stop_load45 ?_) | (with_reducible refine stop_store45 ?_))
  go_ret2
  exact ⟨rfl, bw.out⟩
set_option maxHeartbeats 4000000 in
set_option maxRecDepth 100000 in
theorem rcheck_go (C : List UInt8) (hC : C.length = 16) (vb vl : Int) (hv0 : 0 ≤ vl) (hv1 : vl < 18446744073709551616) (pb pl : Pt) (q : Vp) (w : World) (hb : pb.In w w.heap.size) (hl : pl.In w w.heap.size) (hq : q.In w w.heap.size) (hL : q.l.length ≤ 9223372036854775807) (hr : rightB vb pb.l = true) (hs : rightB vl pl.l = true) :
    Calls Try.prog 54 #[digV C, LV vb pb, LV vl pl, q.V] w fun e w' => e = .returned (.tuple #[.int .i64 (cntN C vl pl.l q.l pb.l : Nat), .bool (decide (majI vb pb.l ≤ (cntN C vl pl.l q.l pb.l : Nat)))]) ∧ Below w.heap.size w w' := by
  have KY := Lib.hid (fun (m : Int) (W : World) => (show Calls Try.prog 41 #[digV C, .int .i64 m] W fun e w' => e = .returned (digV (keyL C m)) ∧ Below W.heap.size W w' from Sm.rkey_any C hC m W))
  have MK := Lib.hid (fun (m : Int) (W : World) (x : Ex w W) => (show Calls Try.prog 57 #[digV (keyL C m), LV vl pl] W fun e w' => e = .returned (digV (markL (keyL C m) vl pl.l)) ∧ Below W.heap.size W w' from rmark_any (keyL C m) (keyL_len C m) vl hv0 hv1 pl (right_len hs).2.2.2.1 W (hl.ext x)))
  have MJ := Lib.hid (fun (W : World) (x : Ex w W) => maj_any vb pb W (hb.ext x))
  have QR := Lib.hid (fun (W : World) (x : Ex w W) => hq.ext x)
  have h8 := (right_len hr).2.2.2.1
  have RDB := Lib.hid (fun (W : World) (x : Ex w W) => (hb.ext x).read)
  have CS := Lib.hid (fun k (h : k < pb.l.length) => (congrArg (cntN C vl pl.l q.l) (take_getD pb.l k h)).trans (cntN_snoc C vl pl.l q.l (pb.l.take k) (pb.l.getD k 0)))
  have CB := Lib.hid (fun k => (show cntN C vl pl.l q.l (pb.l.take k) ≤ k from Nat.le_trans (cntN_le C vl pl.l q.l (pb.l.take k)) (List.length_take_le _ _)))
  obtain ⟨mb, hmb⟩ : ∃ mb : Value, mb = pb.V := ⟨_, rfl⟩
  obtain ⟨ml, hml⟩ : ∃ ml : Value, ml = pl.V := ⟨_, rfl⟩
  have HMB := Lib.hid hmb
  have HML := Lib.hid hml
  have RB := Lib.hid (fun W (h : Ex w W) => (show Calls Try.prog 49 #[.agg #[.int .u64 vb, mb]] W fun e w' => e = .returned (.bool (rightB vb pb.l)) ∧ Below W.heap.size W w' by rw [hmb]; exact right_any vb pb W (hb.ext h)))
  have RL := Lib.hid (fun W (h : Ex w W) => (show Calls Try.prog 49 #[.agg #[.int .u64 vl, ml]] W fun e w' => e = .returned (.bool (rightB vl pl.l)) ∧ Below W.heap.size W w' by rw [hml]; exact right_any vl pl W (hl.ext h)))
  obtain ⟨cs, hcs⟩ : ∃ cs, cs = (Lib.byteCells C).toArray := ⟨_, rfl⟩
  have d0 : Hid (DB (((w.alloc (.cells cs 59)).alloc (.cells #[.int .u64 vb, mb] 45)).alloc (.cells #[.int .u64 vl, ml] 45)) w.heap.size C) := Lib.hid ⟨hC, by rw [hcs]; exact ((Sm.Bk.new rfl _ _).more _).more _⟩
  have l0 : Hid (Bk (((w.alloc (.cells cs 59)).alloc (.cells #[.int .u64 vb, mb] 45)).alloc (.cells #[.int .u64 vl, ml] 45)) (w.heap.size + 1) 45 #[.int .u64 vb, mb]) := Lib.hid ((Bk.new (by simp) _ _).more _)
  have z0 : Hid (Bk (((w.alloc (.cells cs 59)).alloc (.cells #[.int .u64 vb, mb] 45)).alloc (.cells #[.int .u64 vl, ml] 45)) (w.heap.size + 2) 45 #[.int .u64 vl, ml]) := Lib.hid (Bk.new (by simp) _ _)
  have BW := Lib.hid (show Ex w (((w.alloc (.cells cs 59)).alloc (.cells #[.int .u64 vb, mb] 45)).alloc (.cells #[.int .u64 vl, ml] 45)) from (((Below.refl _ _).alloc (Nat.le_refl _) _).alloc (by simp) _).alloc (by simp; omega) _)
  rw [show (Calls Try.prog 54 #[digV C, LV vb pb, LV vl pl, q.V] w) = (Calls Try.prog 54 #[.agg cs, .agg #[.int .u64 vb, mb], .agg #[.int .u64 vl, ml], q.V] w) by rw [hcs, hmb, hml]; rfl]
  obtain ⟨qv, hqv⟩ : ∃ qv, qv = q.V := ⟨_, rfl⟩
  rw [← hqv]
  have HQV := Lib.hid hqv
  rw [hr] at RB
  rw [hs] at RL
  obtain ⟨n, hn⟩ : ∃ n, n = pb.l.length := ⟨_, rfl⟩
  have HN := Lib.hid hn
  rw [← hn] at h8
  obtain ⟨adb, hadb⟩ : ∃ x, x = pb.ad := ⟨_, rfl⟩
  obtain ⟨capb, hcapb⟩ : ∃ x, x = pb.cap := ⟨_, rfl⟩
  have HMS := Lib.hid (show mb = .slice adb n capb by rw [hmb, hadb, hcapb, hn]; rfl)
  have HAD := Lib.hid hadb
  obtain ⟨nq, hnq⟩ : ∃ n, n = q.l.length := ⟨_, rfl⟩
  obtain ⟨adq, hadq⟩ : ∃ x, x = q.ad := ⟨_, rfl⟩
  obtain ⟨capq, hcapq⟩ : ∃ x, x = q.cap := ⟨_, rfl⟩
  have HQS := Lib.hid (show qv = .slice adq nq capq by rw [hqv, hadq, hcapq, hnq]; rfl)
  have HNQ := Lib.hid hnq
  have HAQ := Lib.hid hadq
  have hLq : nq ≤ 9223372036854775807 := by rw [hnq]; exact hL
  clear hn hadb hcapb hnq hadq hcapq
  have HLQ := Lib.hid hLq
  clear hLq
  clear hcs hqv hmb hml hr hs hb hl hq hL hC hv0 hv1
  go_enter Try.func54, Try.ntmps54
  go_wp2_with (first | (with_reducible refine Sm.stop_load59 ?_) | (with_reducible refine Sm.stop_store59 ?_) | (with_reducible refine stop_load45 ?_) | (with_reducible refine stop_store45 ?_))
  have bw := BW.out
  generalize hw1 : ((w.alloc (.cells cs 59)).alloc (.cells #[.int .u64 vb, mb] 45)).alloc (.cells #[.int .u64 vl, ml] 45) = w1 at *
  obtain ⟨B, hB⟩ : ∃ B, B = w.heap.size := ⟨_, rfl⟩
  rw [← hB] at d0 l0 z0 ⊢
  have HB := Lib.hid hB
  clear hw1 hB BW
  have bw := Lib.hid bw
  (with_reducible refine ⟨?_⟩); (with_reducible refine at_any ?_ ?_); (focus go_simp); refine fun K0 hK => wp_ld45g _ (B + 1) _ _ rfl rfl l0.out (hK _ _ ?_)
  clear hK
  have RB1 := Lib.hid (RB.out w1 bw.out)
  clear RB
  go_wp2_with (first | (with_reducible refine Sm.stop_load59 ?_) | (with_reducible refine Sm.stop_store59 ?_) | (with_reducible refine stop_load45 ?_) | (with_reducible refine stop_store45 ?_))
  refine RB1.out.mono ?_
  rintro e w2 ⟨rfl, xr⟩
  have d0 := Lib.hid (d0.out.ext xr)
  have l0 := Lib.hid (l0.out.ext xr)
  have z0 := Lib.hid (z0.out.ext xr)
  have bw := Lib.hid (Ex.trans bw.out xr)
  clear RB1 xr
  go_wp2_with (first | (with_reducible refine Sm.stop_load59 ?_) | (with_reducible refine Sm.stop_store59 ?_) | (with_reducible refine stop_load45 ?_) | (with_reducible refine stop_store45 ?_))
  (with_reducible refine ⟨?_⟩); (with_reducible refine at_any ?_ ?_); (focus go_simp); refine fun K0 hK => wp_ld45g _ (B + 2) _ _ rfl rfl z0.out (hK _ _ ?_)
  clear hK
  have RL1 := Lib.hid (RL.out w2 bw.out)
  clear RL
  go_wp2_with (first | (with_reducible refine Sm.stop_load59 ?_) | (with_reducible refine Sm.stop_store59 ?_) | (with_reducible refine stop_load45 ?_) | (with_reducible refine stop_store45 ?_))
  refine RL1.out.mono ?_
  rintro e w3 ⟨rfl, xr⟩
  have d0 := Lib.hid (d0.out.ext xr)
  have l0 := Lib.hid (l0.out.ext xr)
  have z0 := Lib.hid (z0.out.ext xr)
  have bw := Lib.hid (Ex.trans bw.out xr)
  clear RL1 xr
  have c1 : w3.cell? ⟨B + 1, 1, none⟩ = some mb := l0.out.cell 1
  rw [HMS.out] at c1
  go_wp2_with (first | (with_reducible refine Sm.stop_load59 ?_) | (with_reducible refine Sm.stop_store59 ?_) | (with_reducible refine stop_load45 ?_) | (with_reducible refine stop_store45 ?_))
  clear c1
  have CZ : cntN C vl pl.l q.l (pb.l.take 0) = 0 := rfl
  go_loopw [10, 27] (fun c i wr => ∃ (k : Nat), k ≤ n ∧ i = .int .i64 k ∧ c = .int .i64 (cntN C vl pl.l q.l (pb.l.take k) : Nat) ∧ Hid (DB wr B C) ∧ Hid (Bk wr (B + 1) 45 #[.int .u64 vb, mb]) ∧ Hid (Bk wr (B + 2) 45 #[.int .u64 vl, ml]) ∧ Hid (Ex w wr)) (fun _ i _ => n - (intOf i).toNat)
  case atStart => exact ⟨0, by omega, rfl, rfl, d0, l0, z0, bw⟩
  case round =>
    clear d0 l0 z0 bw CZ
    obtain ⟨k, hk, rfl, rfl, d0, l0, z0, bw⟩ := hrel
    by_cases hlt : k < n
    · obtain ⟨a9, o9, e, ha, hc⟩ := RDB.out wr bw.out (by rw [← HN.out]; omega)
      rw [← HAD.out] at e
      subst e
      rw [← HN.out] at hc
      have cx := hc k hlt
      have q0 : (0 : Int) ≤ (k : Int) := by omega
      have q1 : (k : Int) < (n : Int) := by omega
      have cs1 := CS.out k (by rw [← HN.out]; exact hlt)
      have cb := CB.out k
      obtain ⟨m, hm⟩ : ∃ m, m = pb.l.getD k 0 := ⟨_, rfl⟩
      rw [← hm] at cx cs1
      obtain ⟨cn, hcn⟩ : ∃ cn, cn = cntN C vl pl.l q.l (pb.l.take k) := ⟨_, rfl⟩
      rw [← hcn] at cs1 cb ⊢
      have CS1 := Lib.hid cs1
      have HLT := Lib.hid hlt
      have HK := Lib.hid hk
      clear hc hm hcn cs1 ha hlt
      have hqs := HQS.out
      subst hqs
      have hLq := HLQ.out
      go_wp2_with (first | (with_reducible refine Sm.stop_load59 ?_) | (with_reducible refine Sm.stop_store59 ?_) | (with_reducible refine stop_load45 ?_) | (with_reducible refine stop_store45 ?_))
      obtain ⟨wo, hwo⟩ : ∃ wo : World, wo = wr := ⟨_, rfl⟩
      rw [← hwo] at d0 l0 z0 bw ⊢
      clear hwo
      have mem0 : decide ((m, markL (keyL C m) vl pl.l) ∈ q.l.take 0) = false := by simp
      go_loopw [13, 33] (fun b i wr => ∃ (j : Nat), j ≤ nq ∧ i = .int .i64 j ∧ b = .bool (decide ((m, markL (keyL C m) vl pl.l) ∈ q.l.take j)) ∧ Hid (DB wr B C) ∧ Hid (Bk wr (B + 1) 45 #[.int .u64 vb, mb]) ∧ Hid (Bk wr (B + 2) 45 #[.int .u64 vl, ml]) ∧ Hid (Ex w wr)) (fun _ i _ => nq - (intOf i).toNat)
      case atStart => exact ⟨0, by omega, rfl, by rw [mem0], d0, l0, z0, bw⟩
      case round =>
        clear d0 l0 z0 bw mem0 q0 q1 cx
        obtain ⟨j, hj, rfl, rfl, d0, l0, z0, bw⟩ := hrel
        by_cases hlt : j < nq
        · obtain ⟨aq, oq, e, haq, hcq⟩ := (QR.out wr bw.out).read (by rw [← HNQ.out]; omega)
          rw [← HAQ.out] at e
          subst e
          obtain ⟨z, hz⟩ : ∃ z, q.l[j]? = some z := ⟨_, List.getElem?_eq_getElem (by rw [← HNQ.out]; exact hlt)⟩
          have hz16 := Lib.hid ((QR.out wr bw.out).ok j z hz)
          have rz := Lib.hid (hcq j z hz)
          have TK := Lib.hid (show q.l.take (j + 1) = q.l.take j ++ [z] by rw [List.take_add_one, hz]; rfl)
          have q0 : (0 : Int) ≤ (j : Int) := by omega
          have q1 : (j : Int) < (nq : Int) := by omega
          obtain ⟨inb, hin⟩ : ∃ inb, inb = decide ((m, markL (keyL C m) vl pl.l) ∈ q.l.take j) := ⟨_, rfl⟩
          have HIN := Lib.hid hin
          rw [← hin]
          clear hcq hz haq hin
          go_wp2_with (first | (with_reducible refine stop_load88 ?_) | (with_reducible refine stop_store88 ?_) | (with_reducible refine Sm.stop_load59 ?_) | (with_reducible refine Sm.stop_store59 ?_) | (with_reducible refine stop_load45 ?_) | (with_reducible refine stop_store45 ?_))
          (with_reducible refine ⟨?_⟩); (with_reducible refine at_any ?_ ?_); (focus go_simp); refine fun K0 hK => wp_ld88 _ aq (oq + 17 * j) z hz16.out rfl (by go_simp) rz.out (hK _ _ ?_)
          clear hK
          go_wp2_with (first | (with_reducible refine stop_load88 ?_) | (with_reducible refine stop_store88 ?_) | (with_reducible refine Sm.stop_load59 ?_) | (with_reducible refine Sm.stop_store59 ?_) | (with_reducible refine stop_load45 ?_) | (with_reducible refine stop_store45 ?_))
          (with_reducible refine ⟨?_⟩); (with_reducible refine at_any ?_ ?_); (focus go_simp); refine fun K0 hK => wp_st88 _ _ wr.heap.size z hz16.out rfl rfl rfl (Bk.new rfl _ _) rfl (fun w5 hd ho => hK _ _ ?_)
          have xs : Ex wr w5 := ho.ex
          obtain ⟨g15, hg15⟩ : ∃ g, g = wr.heap.size := ⟨_, rfl⟩
          rw [← hg15] at hd ⊢
          have b15 := Lib.hid hd
          have d0 := Lib.hid (d0.out.ext xs)
          have l0 := Lib.hid (l0.out.ext xs)
          have z0 := Lib.hid (z0.out.ext xs)
          have bw := Lib.hid (Ex.trans bw.out xs)
          clear hK ho hd xs hg15 rz
          cases inb
          · by_cases hzm : z.1 = m
            · have HZM := Lib.hid (show (z.1 == m) = true by rw [hzm]; simp)
              have IV := Lib.hid (show decide ((m, markL (keyL C m) vl pl.l) ∈ q.l.take (j + 1)) = decide (z.2 = markL (keyL C m) vl pl.l) by
                rw [TK.out]
                have h := of_decide_eq_false HIN.out.symm
                rw [decide_eq_decide, List.mem_append]
                constructor
                · rintro (h1 | h1)
                  · exact absurd h1 h
                  · rw [← List.mem_singleton.1 h1]
                · intro h1
                  exact .inr (List.mem_singleton.2 (Prod.ext hzm.symm h1.symm)))
              have b15 := b15
              clear hzm
              go_wp2_with (first | (with_reducible refine stop_load88 ?_) | (with_reducible refine stop_store88 ?_) | (with_reducible refine Sm.stop_load59 ?_) | (with_reducible refine Sm.stop_store59 ?_) | (with_reducible refine stop_load45 ?_) | (with_reducible refine stop_store45 ?_))
              obtain ⟨T, hT⟩ : ∃ T : List (Option Value), T = [some (.bool false), some (.bool false), some (.pointer (some ⟨g15, 0, none⟩)), some (.int .i64 z.1), some (.int .i64 m), some (.bool true), some (.bool true), some (.pointer (some ⟨g15, 1, none⟩)), some (digV z.2), some (digV C), some (.int .i64 m), some (digV (keyL C m)), some (.agg #[.int .u64 vl, ml]), some (digV (markL (keyL C m) vl pl.l)), some (.bool (decide (z.2 = markL (keyL C m) vl pl.l))), some (.bool (decide (z.2 = markL (keyL C m) vl pl.l))), some (.bool (decide (z.2 = markL (keyL C m) vl pl.l))), some (.bool (decide (z.2 = markL (keyL C m) vl pl.l)))] := ⟨_, rfl⟩
              refine wp_region_gen (JL w5 T 1000 1001 0 #[] #[]) (by kernel_rfl) (by kernel_rfl) (by kernel_rfl) (fitB_spec (by kernel_rfl)) (fun listed f h => JL.start _ listed f h) ?_ ?_
              · intro i o ho
                have hi : i < 18 := (Array.getElem?_eq_some_iff.1 ho).1
                have hi' : i = 0 ∨ i = 1 ∨ i = 2 ∨ i = 3 ∨ i = 4 ∨ i = 5 ∨ i = 6 ∨ i = 7 ∨ i = 8 ∨ i = 9 ∨ i = 10 ∨ i = 11 ∨ i = 12 ∨ i = 13 ∨ i = 14 ∨ i = 15 ∨ i = 16 ∨ i = 17 := by omega
                clear hi
                rcases hi' with rfl | rfl | rfl | rfl | rfl | rfl | rfl | rfl | rfl | rfl | rfl | rfl | rfl | rfl | rfl | rfl | rfl | rfl
                all_goals (simp only [List.getElem?_toArray, List.getElem?_cons_zero, List.getElem?_cons_succ, Option.some.injEq] at ho; subst ho; intro listed f a w2 hJ hsz hls hun hdep hout hlat)
                · rw [if_pos (by rfl)]
                  intro K hK
                  have q13 := hlat 13 17 _ rfl rfl ⟨⟨0, .phase⟩, by simp, rfl, rfl⟩
                  refine wp_mv _ rfl (hK _ _ ?_)
                  rw [show a.eval (.tmp 13) = .bool false from q13]
                  exact hJ.plain (by decide) (by decide) (Ex.refl _) (fun x hx => by rw [hT] at hx; first | exact Option.some.inj hx | simpa using hx)
                · rw [if_pos (by rfl)]
                  intro K hK
                  have q37 := (hdep ⟨0, .data⟩ (by simp) rfl).2 _ rfl _ rfl
                  rw [show f 0 = _ from hJ.vals 0 (hdep ⟨0, .data⟩ (by simp) rfl).1 (.bool false) (by rw [hT]; rfl)] at q37
                  refine wp_mv _ rfl (hK _ _ ?_)
                  rw [show a.eval (.tmp 37) = .bool false from q37]
                  exact hJ.plain (by decide) (by decide) (Ex.refl _) (fun x hx => by rw [hT] at hx; first | exact Option.some.inj hx | simpa using hx)
                · have kg := (hdep ⟨1, .guard⟩ (by simp) rfl).2 _ rfl _ rfl
                  rw [show f 1 = _ from hJ.vals 1 (hdep ⟨1, .guard⟩ (by simp) rfl).1 (.bool false) (by rw [hT]; rfl)] at kg
                  rw [if_pos (wanted_of rfl rfl rfl kg)]
                  intro K hK
                  have q15 := hout 15 (outB_spec (by kernel_rfl))
                  rw [Array.getD_eq_getD_getElem?] at q15
                  clear hsz hdep hout hlat
                  go_simp
                  exact hK _ _ (hJ.plain (by decide) (by decide) (Ex.refl _) (fun x hx => by rw [hT] at hx; first | exact Option.some.inj hx | simpa using hx))
                · have kg := (hdep ⟨1, .guard⟩ (by simp) rfl).2 _ rfl _ rfl
                  rw [show f 1 = _ from hJ.vals 1 (hdep ⟨1, .guard⟩ (by simp) rfl).1 (.bool false) (by rw [hT]; rfl)] at kg
                  rw [if_pos (wanted_of rfl rfl rfl kg)]
                  intro K hK
                  have q39 := (hdep ⟨2, .data⟩ (by simp) rfl).2 _ rfl _ rfl
                  rw [show f 2 = _ from hJ.vals 2 (hdep ⟨2, .data⟩ (by simp) rfl).1 (.pointer (some ⟨g15, 0, none⟩)) (by rw [hT]; rfl)] at q39
                  have f1 : w2.cell? ⟨g15, 0, none⟩ = some (.int .i64 z.1) := (b15.out.ext hJ.ext).cell 0
                  rw [Array.getD_eq_getD_getElem?] at q39
                  clear hsz hdep hout hlat
                  go_simp
                  exact hK _ _ (hJ.plain (by decide) (by decide) (Ex.refl _) (fun x hx => by rw [hT] at hx; first | exact Option.some.inj hx | simpa using hx))
                · have kg := (hdep ⟨1, .guard⟩ (by simp) rfl).2 _ rfl _ rfl
                  rw [show f 1 = _ from hJ.vals 1 (hdep ⟨1, .guard⟩ (by simp) rfl).1 (.bool false) (by rw [hT]; rfl)] at kg
                  rw [if_pos (wanted_of rfl rfl rfl kg)]
                  intro K hK
                  have q12 := hout 12 (outB_spec (by kernel_rfl))
                  refine wp_mv _ rfl (hK _ _ ?_)
                  rw [show a.eval (.tmp 12) = .int .i64 m from q12]
                  exact hJ.plain (by decide) (by decide) (Ex.refl _) (fun x hx => by rw [hT] at hx; first | exact Option.some.inj hx | simpa using hx)
                · have kg := (hdep ⟨1, .guard⟩ (by simp) rfl).2 _ rfl _ rfl
                  rw [show f 1 = _ from hJ.vals 1 (hdep ⟨1, .guard⟩ (by simp) rfl).1 (.bool false) (by rw [hT]; rfl)] at kg
                  rw [if_pos (wanted_of rfl rfl rfl kg)]
                  intro K hK
                  have q40 := (hdep ⟨3, .data⟩ (by simp) rfl).2 _ rfl _ rfl
                  rw [show f 3 = _ from hJ.vals 3 (hdep ⟨3, .data⟩ (by simp) rfl).1 (.int .i64 z.1) (by rw [hT]; rfl)] at q40
                  have q41 := (hdep ⟨4, .data⟩ (by simp) rfl).2 _ rfl _ rfl
                  rw [show f 4 = _ from hJ.vals 4 (hdep ⟨4, .data⟩ (by simp) rfl).1 (.int .i64 m) (by rw [hT]; rfl)] at q41
                  rw [Array.getD_eq_getD_getElem?] at q40
                  rw [Array.getD_eq_getD_getElem?] at q41
                  clear hsz hdep hout hlat
                  have e := HZM.out
                  go_simp
                  exact hK _ _ (hJ.plain (by decide) (by decide) (Ex.refl _) (fun x hx => by rw [hT] at hx; first | exact Option.some.inj hx | simpa using hx))
                · have kg := (hdep ⟨1, .guard⟩ (by simp) rfl).2 _ rfl _ rfl
                  rw [show f 1 = _ from hJ.vals 1 (hdep ⟨1, .guard⟩ (by simp) rfl).1 (.bool false) (by rw [hT]; rfl)] at kg
                  rw [if_pos (wanted_of rfl rfl rfl kg)]
                  intro K hK
                  have q42 := (hdep ⟨5, .data⟩ (by simp) rfl).2 _ rfl _ rfl
                  rw [show f 5 = _ from hJ.vals 5 (hdep ⟨5, .data⟩ (by simp) rfl).1 (.bool true) (by rw [hT]; rfl)] at q42
                  refine wp_mv _ rfl (hK _ _ ?_)
                  rw [show a.eval (.tmp 42) = .bool true from q42]
                  exact hJ.plain (by decide) (by decide) (Ex.refl _) (fun x hx => by rw [hT] at hx; first | exact Option.some.inj hx | simpa using hx)
                · have kg := (hdep ⟨6, .guard⟩ (by simp) rfl).2 _ rfl _ rfl
                  rw [show f 6 = _ from hJ.vals 6 (hdep ⟨6, .guard⟩ (by simp) rfl).1 (.bool true) (by rw [hT]; rfl)] at kg
                  rw [if_pos (wanted_of rfl rfl rfl kg)]
                  intro K hK
                  have q15 := hout 15 (outB_spec (by kernel_rfl))
                  rw [Array.getD_eq_getD_getElem?] at q15
                  clear hsz hdep hout hlat
                  go_simp
                  exact hK _ _ (hJ.plain (by decide) (by decide) (Ex.refl _) (fun x hx => by rw [hT] at hx; first | exact Option.some.inj hx | simpa using hx))
                · have kg := (hdep ⟨6, .guard⟩ (by simp) rfl).2 _ rfl _ rfl
                  rw [show f 6 = _ from hJ.vals 6 (hdep ⟨6, .guard⟩ (by simp) rfl).1 (.bool true) (by rw [hT]; rfl)] at kg
                  rw [if_pos (wanted_of rfl rfl rfl kg)]
                  intro K hK
                  have q44 := (hdep ⟨7, .data⟩ (by simp) rfl).2 _ rfl _ rfl
                  rw [show f 7 = _ from hJ.vals 7 (hdep ⟨7, .data⟩ (by simp) rfl).1 (.pointer (some ⟨g15, 1, none⟩)) (by rw [hT]; rfl)] at q44
                  refine wp_ldd _ g15 1 z.2 hz16.out rfl q44 (fun j u hu => ?_) (hK _ _ (hJ.plain (by decide) (by decide) (Ex.refl _) (fun x hx => by rw [hT] at hx; first | exact Option.some.inj hx | simpa using hx)))
                  rw [(b15.out.ext hJ.ext).cell, Nat.add_comm]; simpa [voC] using hu
                · have kg := (hdep ⟨6, .guard⟩ (by simp) rfl).2 _ rfl _ rfl
                  rw [show f 6 = _ from hJ.vals 6 (hdep ⟨6, .guard⟩ (by simp) rfl).1 (.bool true) (by rw [hT]; rfl)] at kg
                  rw [if_pos (wanted_of rfl rfl rfl kg)]
                  intro K hK
                  have q4 := hout 4 (outB_spec (by kernel_rfl))
                  exact Sm.wp_ld _ B C rfl q4 (d0.out.ext hJ.ext) (hK _ _ (hJ.plain (by decide) (by decide) (Ex.refl _) (fun x hx => by rw [hT] at hx; first | exact Option.some.inj hx | simpa using hx)))
                · have kg := (hdep ⟨6, .guard⟩ (by simp) rfl).2 _ rfl _ rfl
                  rw [show f 6 = _ from hJ.vals 6 (hdep ⟨6, .guard⟩ (by simp) rfl).1 (.bool true) (by rw [hT]; rfl)] at kg
                  rw [if_pos (wanted_of rfl rfl rfl kg)]
                  intro K hK
                  have q12 := hout 12 (outB_spec (by kernel_rfl))
                  refine wp_mv _ rfl (hK _ _ ?_)
                  rw [show a.eval (.tmp 12) = .int .i64 m from q12]
                  exact hJ.plain (by decide) (by decide) (Ex.refl _) (fun x hx => by rw [hT] at hx; first | exact Option.some.inj hx | simpa using hx)
                · have kg := (hdep ⟨6, .guard⟩ (by simp) rfl).2 _ rfl _ rfl
                  rw [show f 6 = _ from hJ.vals 6 (hdep ⟨6, .guard⟩ (by simp) rfl).1 (.bool true) (by rw [hT]; rfl)] at kg
                  rw [if_pos (wanted_of rfl rfl rfl kg)]
                  intro K hK
                  have q46 := (hdep ⟨9, .data⟩ (by simp) rfl).2 _ rfl _ rfl
                  rw [show f 9 = _ from hJ.vals 9 (hdep ⟨9, .data⟩ (by simp) rfl).1 (digV C) (by rw [hT]; rfl)] at q46
                  have q47 := (hdep ⟨10, .data⟩ (by simp) rfl).2 _ rfl _ rfl
                  rw [show f 10 = _ from hJ.vals 10 (hdep ⟨10, .data⟩ (by simp) rfl).1 (.int .i64 m) (by rw [hT]; rfl)] at q47
                  rw [Array.getD_eq_getD_getElem?] at q46
                  rw [Array.getD_eq_getD_getElem?] at q47
                  clear hsz hdep hout hlat
                  go_simp
                  refine (KY.out m w2).mono ?_
                  rintro e w3 ⟨rfl, xq⟩
                  exact hK _ _ (hJ.plain (by decide) (by decide) xq (fun x hx => by rw [hT] at hx; first | exact Option.some.inj hx | simpa using hx))
                · have kg := (hdep ⟨6, .guard⟩ (by simp) rfl).2 _ rfl _ rfl
                  rw [show f 6 = _ from hJ.vals 6 (hdep ⟨6, .guard⟩ (by simp) rfl).1 (.bool true) (by rw [hT]; rfl)] at kg
                  rw [if_pos (wanted_of rfl rfl rfl kg)]
                  intro K hK
                  have q6 := hout 6 (outB_spec (by kernel_rfl))
                  refine wp_ld45g _ (B + 2) _ _ rfl q6 (z0.out.ext hJ.ext) (hK _ _ (hJ.plain (by decide) (by decide) (Ex.refl _) (fun x hx => by rw [hT] at hx; first | exact Option.some.inj hx | simpa using hx)))
                · have kg := (hdep ⟨6, .guard⟩ (by simp) rfl).2 _ rfl _ rfl
                  rw [show f 6 = _ from hJ.vals 6 (hdep ⟨6, .guard⟩ (by simp) rfl).1 (.bool true) (by rw [hT]; rfl)] at kg
                  rw [if_pos (wanted_of rfl rfl rfl kg)]
                  intro K hK
                  have q48 := (hdep ⟨11, .data⟩ (by simp) rfl).2 _ rfl _ rfl
                  rw [show f 11 = _ from hJ.vals 11 (hdep ⟨11, .data⟩ (by simp) rfl).1 (digV (keyL C m)) (by rw [hT]; rfl)] at q48
                  have q49 := (hdep ⟨12, .data⟩ (by simp) rfl).2 _ rfl _ rfl
                  rw [show f 12 = _ from hJ.vals 12 (hdep ⟨12, .data⟩ (by simp) rfl).1 (.agg #[.int .u64 vl, ml]) (by rw [hT]; rfl)] at q49
                  rw [Array.getD_eq_getD_getElem?] at q48
                  rw [Array.getD_eq_getD_getElem?] at q49
                  have cm := Lib.hid (MK.out m w2 (Ex.trans bw.out hJ.ext))
                  unfold LV at cm
                  clear hsz hdep hout hlat
                  go_simp
                  rw [show pl.V = ml from HML.out.symm] at cm
                  refine cm.out.mono ?_
                  rintro e w3 ⟨rfl, xq⟩
                  exact hK _ _ (hJ.plain (by decide) (by decide) xq (fun x hx => by rw [hT] at hx; first | exact Option.some.inj hx | simpa using hx))
                · have kg := (hdep ⟨6, .guard⟩ (by simp) rfl).2 _ rfl _ rfl
                  rw [show f 6 = _ from hJ.vals 6 (hdep ⟨6, .guard⟩ (by simp) rfl).1 (.bool true) (by rw [hT]; rfl)] at kg
                  rw [if_pos (wanted_of rfl rfl rfl kg)]
                  intro K hK
                  have q45 := (hdep ⟨8, .data⟩ (by simp) rfl).2 _ rfl _ rfl
                  rw [show f 8 = _ from hJ.vals 8 (hdep ⟨8, .data⟩ (by simp) rfl).1 (digV z.2) (by rw [hT]; rfl)] at q45
                  have q50 := (hdep ⟨13, .data⟩ (by simp) rfl).2 _ rfl _ rfl
                  rw [show f 13 = _ from hJ.vals 13 (hdep ⟨13, .data⟩ (by simp) rfl).1 (digV (markL (keyL C m) vl pl.l)) (by rw [hT]; rfl)] at q50
                  refine Sm.wp_eql_dig _ _ _ rfl z.2 (markL (keyL C m) vl pl.l) hz16.out (markL_len _ _ _) q45 q50 (hK _ _ (hJ.plain (by decide) (by decide) (Ex.refl _) (fun x hx => by rw [hT] at hx; first | exact Option.some.inj hx | simpa using hx)))
                · have kg := (hdep ⟨1, .guard⟩ (by simp) rfl).2 _ rfl _ rfl
                  rw [show f 1 = _ from hJ.vals 1 (hdep ⟨1, .guard⟩ (by simp) rfl).1 (.bool false) (by rw [hT]; rfl)] at kg
                  rw [if_pos (wanted_of rfl rfl rfl kg)]
                  intro K hK
                  have q43 := (hdep ⟨6, .data⟩ (by simp) rfl).2 _ rfl _ rfl
                  rw [show f 6 = _ from hJ.vals 6 (hdep ⟨6, .data⟩ (by simp) rfl).1 (.bool true) (by rw [hT]; rfl)] at q43
                  have q51 := (hdep ⟨14, .data⟩ (by simp) rfl).2 _ rfl _ rfl
                  rw [show f 14 = _ from hJ.vals 14 (hdep ⟨14, .data⟩ (by simp) rfl).1 (.bool (decide (z.2 = markL (keyL C m) vl pl.l))) (by rw [hT]; rfl)] at q51
                  rw [Array.getD_eq_getD_getElem?] at q43
                  rw [Array.getD_eq_getD_getElem?] at q51
                  clear hsz hdep hout hlat
                  go_simp
                  exact hK _ _ (hJ.plain (by decide) (by decide) (Ex.refl _) (fun x hx => by rw [hT] at hx; first | exact Option.some.inj hx | simpa using hx))
                · rw [if_pos (by rfl)]
                  intro K hK
                  have q38 := (hdep ⟨1, .data⟩ (by simp) rfl).2 _ rfl _ rfl
                  rw [show f 1 = _ from hJ.vals 1 (hdep ⟨1, .data⟩ (by simp) rfl).1 (.bool false) (by rw [hT]; rfl)] at q38
                  have q52 := (hdep ⟨15, .data⟩ (by simp) rfl).2 _ rfl _ rfl
                  rw [show f 15 = _ from hJ.vals 15 (hdep ⟨15, .data⟩ (by simp) rfl).1 (.bool (decide (z.2 = markL (keyL C m) vl pl.l))) (by rw [hT]; rfl)] at q52
                  rw [Array.getD_eq_getD_getElem?] at q38
                  rw [Array.getD_eq_getD_getElem?] at q52
                  clear hsz hdep hout hlat
                  go_simp
                  exact hK _ _ (hJ.plain (by decide) (by decide) (Ex.refl _) (fun x hx => by rw [hT] at hx; first | exact Option.some.inj hx | simpa using hx))
                · rw [if_pos (by rfl)]
                  intro K hK
                  have q53 := (hdep ⟨16, .data⟩ (by simp) rfl).2 _ rfl _ rfl
                  rw [show f 16 = _ from hJ.vals 16 (hdep ⟨16, .data⟩ (by simp) rfl).1 (.bool (decide (z.2 = markL (keyL C m) vl pl.l))) (by rw [hT]; rfl)] at q53
                  rw [Array.getD_eq_getD_getElem?] at q53
                  clear hsz hdep hout hlat
                  go_simp
                  exact hK _ _ (hJ.plain (by decide) (by decide) (Ex.refl _) (fun x hx => by rw [hT] at hx; first | exact Option.some.inj hx | simpa using hx))
              · intro listed f w2 hall hJ
                have f0 : f 0 = .bool false := hJ.vals 0 (hall 0 (by simp)) _ (by rw [hT]; rfl)
                have f1 : f 1 = .bool false := hJ.vals 1 (hall 1 (by simp)) _ (by rw [hT]; rfl)
                have f2 : f 2 = .pointer (some ⟨g15, 0, none⟩) := hJ.vals 2 (hall 2 (by simp)) _ (by rw [hT]; rfl)
                have f3 : f 3 = .int .i64 z.1 := hJ.vals 3 (hall 3 (by simp)) _ (by rw [hT]; rfl)
                have f4 : f 4 = .int .i64 m := hJ.vals 4 (hall 4 (by simp)) _ (by rw [hT]; rfl)
                have f5 : f 5 = .bool true := hJ.vals 5 (hall 5 (by simp)) _ (by rw [hT]; rfl)
                have f6 : f 6 = .bool true := hJ.vals 6 (hall 6 (by simp)) _ (by rw [hT]; rfl)
                have f7 : f 7 = .pointer (some ⟨g15, 1, none⟩) := hJ.vals 7 (hall 7 (by simp)) _ (by rw [hT]; rfl)
                have f8 : f 8 = digV z.2 := hJ.vals 8 (hall 8 (by simp)) _ (by rw [hT]; rfl)
                have f9 : f 9 = digV C := hJ.vals 9 (hall 9 (by simp)) _ (by rw [hT]; rfl)
                have f10 : f 10 = .int .i64 m := hJ.vals 10 (hall 10 (by simp)) _ (by rw [hT]; rfl)
                have f11 : f 11 = digV (keyL C m) := hJ.vals 11 (hall 11 (by simp)) _ (by rw [hT]; rfl)
                have f12 : f 12 = .agg #[.int .u64 vl, ml] := hJ.vals 12 (hall 12 (by simp)) _ (by rw [hT]; rfl)
                have f13 : f 13 = digV (markL (keyL C m) vl pl.l) := hJ.vals 13 (hall 13 (by simp)) _ (by rw [hT]; rfl)
                have f14 : f 14 = .bool (decide (z.2 = markL (keyL C m) vl pl.l)) := hJ.vals 14 (hall 14 (by simp)) _ (by rw [hT]; rfl)
                have f15 : f 15 = .bool (decide (z.2 = markL (keyL C m) vl pl.l)) := hJ.vals 15 (hall 15 (by simp)) _ (by rw [hT]; rfl)
                have f16 : f 16 = .bool (decide (z.2 = markL (keyL C m) vl pl.l)) := hJ.vals 16 (hall 16 (by simp)) _ (by rw [hT]; rfl)
                have f17 : f 17 = .bool (decide (z.2 = markL (keyL C m) vl pl.l)) := hJ.vals 17 (hall 17 (by simp)) _ (by rw [hT]; rfl)
                have xw := hJ.ext
                simp only [putAll, Act.put, List.setIfInBounds_toArray, List.set_cons_zero, List.set_cons_succ, Nat.zero_add, Nat.reduceAdd]
                rw [f0, f1, f2, f3, f4, f5, f6, f7, f8, f9, f10, f11, f12, f13, f14, f15, f16, f17]
                clear f0 f1 f2 f3 f4 f5 f6 f7 f8 f9 f10 f11 f12 f13 f14 f15 f16 f17 hJ hall hT
                have d0 := Lib.hid (d0.out.ext xw)
                have l0 := Lib.hid (l0.out.ext xw)
                have z0 := Lib.hid (z0.out.ext xw)
                have bw := Lib.hid (Ex.trans bw.out xw)
                clear xw
                go_wp2_with (first | (with_reducible refine Sm.stop_load59 ?_) | (with_reducible refine Sm.stop_store59 ?_) | (with_reducible refine stop_load45 ?_) | (with_reducible refine stop_store45 ?_))
                go_roundw
                case rel => exact ⟨j + 1, by omega, by go_num, by rw [IV.out], d0, l0, z0, bw⟩
                case measure => simp [intOf]; omega
            · have HZM := Lib.hid (show (z.1 == m) = false by simpa using hzm)
              have IV := Lib.hid (show decide ((m, markL (keyL C m) vl pl.l) ∈ q.l.take (j + 1)) = false by
                rw [TK.out]
                have h := of_decide_eq_false HIN.out.symm
                rw [decide_eq_false_iff_not, List.mem_append]
                rintro (h1 | h1)
                · exact h h1
                · exact hzm (by rw [← List.mem_singleton.1 h1]))
              clear hzm
              go_wp2_with (first | (with_reducible refine stop_load88 ?_) | (with_reducible refine stop_store88 ?_) | (with_reducible refine Sm.stop_load59 ?_) | (with_reducible refine Sm.stop_store59 ?_) | (with_reducible refine stop_load45 ?_) | (with_reducible refine stop_store45 ?_))
              obtain ⟨T, hT⟩ : ∃ T : List (Option Value), T = [some (.bool false), some (.bool false), some (.pointer (some ⟨g15, 0, none⟩)), some (.int .i64 z.1), some (.int .i64 m), some (.bool false), some (.bool false), none, none, none, none, none, none, none, none, some (.bool false), some (.bool false), some (.bool false)] := ⟨_, rfl⟩
              refine wp_region_gen (JL w5 T 1000 1001 0 #[] #[]) (by kernel_rfl) (by kernel_rfl) (by kernel_rfl) (fitB_spec (by kernel_rfl)) (fun listed f h => JL.start _ listed f h) ?_ ?_
              · intro i o ho
                have hi : i < 18 := (Array.getElem?_eq_some_iff.1 ho).1
                have hi' : i = 0 ∨ i = 1 ∨ i = 2 ∨ i = 3 ∨ i = 4 ∨ i = 5 ∨ i = 6 ∨ i = 7 ∨ i = 8 ∨ i = 9 ∨ i = 10 ∨ i = 11 ∨ i = 12 ∨ i = 13 ∨ i = 14 ∨ i = 15 ∨ i = 16 ∨ i = 17 := by omega
                clear hi
                rcases hi' with rfl | rfl | rfl | rfl | rfl | rfl | rfl | rfl | rfl | rfl | rfl | rfl | rfl | rfl | rfl | rfl | rfl | rfl
                all_goals (simp only [List.getElem?_toArray, List.getElem?_cons_zero, List.getElem?_cons_succ, Option.some.injEq] at ho; subst ho; intro listed f a w2 hJ hsz hls hun hdep hout hlat)
                · rw [if_pos (by rfl)]
                  intro K hK
                  have q13 := hlat 13 17 _ rfl rfl ⟨⟨0, .phase⟩, by simp, rfl, rfl⟩
                  refine wp_mv _ rfl (hK _ _ ?_)
                  rw [show a.eval (.tmp 13) = .bool false from q13]
                  exact hJ.plain (by decide) (by decide) (Ex.refl _) (fun x hx => by rw [hT] at hx; first | exact Option.some.inj hx | simpa using hx)
                · rw [if_pos (by rfl)]
                  intro K hK
                  have q37 := (hdep ⟨0, .data⟩ (by simp) rfl).2 _ rfl _ rfl
                  rw [show f 0 = _ from hJ.vals 0 (hdep ⟨0, .data⟩ (by simp) rfl).1 (.bool false) (by rw [hT]; rfl)] at q37
                  refine wp_mv _ rfl (hK _ _ ?_)
                  rw [show a.eval (.tmp 37) = .bool false from q37]
                  exact hJ.plain (by decide) (by decide) (Ex.refl _) (fun x hx => by rw [hT] at hx; first | exact Option.some.inj hx | simpa using hx)
                · have kg := (hdep ⟨1, .guard⟩ (by simp) rfl).2 _ rfl _ rfl
                  rw [show f 1 = _ from hJ.vals 1 (hdep ⟨1, .guard⟩ (by simp) rfl).1 (.bool false) (by rw [hT]; rfl)] at kg
                  rw [if_pos (wanted_of rfl rfl rfl kg)]
                  intro K hK
                  have q15 := hout 15 (outB_spec (by kernel_rfl))
                  rw [Array.getD_eq_getD_getElem?] at q15
                  clear hsz hdep hout hlat
                  go_simp
                  exact hK _ _ (hJ.plain (by decide) (by decide) (Ex.refl _) (fun x hx => by rw [hT] at hx; first | exact Option.some.inj hx | simpa using hx))
                · have kg := (hdep ⟨1, .guard⟩ (by simp) rfl).2 _ rfl _ rfl
                  rw [show f 1 = _ from hJ.vals 1 (hdep ⟨1, .guard⟩ (by simp) rfl).1 (.bool false) (by rw [hT]; rfl)] at kg
                  rw [if_pos (wanted_of rfl rfl rfl kg)]
                  intro K hK
                  have q39 := (hdep ⟨2, .data⟩ (by simp) rfl).2 _ rfl _ rfl
                  rw [show f 2 = _ from hJ.vals 2 (hdep ⟨2, .data⟩ (by simp) rfl).1 (.pointer (some ⟨g15, 0, none⟩)) (by rw [hT]; rfl)] at q39
                  have f1 : w2.cell? ⟨g15, 0, none⟩ = some (.int .i64 z.1) := (b15.out.ext hJ.ext).cell 0
                  rw [Array.getD_eq_getD_getElem?] at q39
                  clear hsz hdep hout hlat
                  go_simp
                  exact hK _ _ (hJ.plain (by decide) (by decide) (Ex.refl _) (fun x hx => by rw [hT] at hx; first | exact Option.some.inj hx | simpa using hx))
                · have kg := (hdep ⟨1, .guard⟩ (by simp) rfl).2 _ rfl _ rfl
                  rw [show f 1 = _ from hJ.vals 1 (hdep ⟨1, .guard⟩ (by simp) rfl).1 (.bool false) (by rw [hT]; rfl)] at kg
                  rw [if_pos (wanted_of rfl rfl rfl kg)]
                  intro K hK
                  have q12 := hout 12 (outB_spec (by kernel_rfl))
                  refine wp_mv _ rfl (hK _ _ ?_)
                  rw [show a.eval (.tmp 12) = .int .i64 m from q12]
                  exact hJ.plain (by decide) (by decide) (Ex.refl _) (fun x hx => by rw [hT] at hx; first | exact Option.some.inj hx | simpa using hx)
                · have kg := (hdep ⟨1, .guard⟩ (by simp) rfl).2 _ rfl _ rfl
                  rw [show f 1 = _ from hJ.vals 1 (hdep ⟨1, .guard⟩ (by simp) rfl).1 (.bool false) (by rw [hT]; rfl)] at kg
                  rw [if_pos (wanted_of rfl rfl rfl kg)]
                  intro K hK
                  have q40 := (hdep ⟨3, .data⟩ (by simp) rfl).2 _ rfl _ rfl
                  rw [show f 3 = _ from hJ.vals 3 (hdep ⟨3, .data⟩ (by simp) rfl).1 (.int .i64 z.1) (by rw [hT]; rfl)] at q40
                  have q41 := (hdep ⟨4, .data⟩ (by simp) rfl).2 _ rfl _ rfl
                  rw [show f 4 = _ from hJ.vals 4 (hdep ⟨4, .data⟩ (by simp) rfl).1 (.int .i64 m) (by rw [hT]; rfl)] at q41
                  rw [Array.getD_eq_getD_getElem?] at q40
                  rw [Array.getD_eq_getD_getElem?] at q41
                  clear hsz hdep hout hlat
                  have e := HZM.out
                  go_simp
                  exact hK _ _ (hJ.plain (by decide) (by decide) (Ex.refl _) (fun x hx => by rw [hT] at hx; first | exact Option.some.inj hx | simpa using hx))
                · have kg := (hdep ⟨1, .guard⟩ (by simp) rfl).2 _ rfl _ rfl
                  rw [show f 1 = _ from hJ.vals 1 (hdep ⟨1, .guard⟩ (by simp) rfl).1 (.bool false) (by rw [hT]; rfl)] at kg
                  rw [if_pos (wanted_of rfl rfl rfl kg)]
                  intro K hK
                  have q42 := (hdep ⟨5, .data⟩ (by simp) rfl).2 _ rfl _ rfl
                  rw [show f 5 = _ from hJ.vals 5 (hdep ⟨5, .data⟩ (by simp) rfl).1 (.bool false) (by rw [hT]; rfl)] at q42
                  refine wp_mv _ rfl (hK _ _ ?_)
                  rw [show a.eval (.tmp 42) = .bool false from q42]
                  exact hJ.plain (by decide) (by decide) (Ex.refl _) (fun x hx => by rw [hT] at hx; first | exact Option.some.inj hx | simpa using hx)
                · have kg := (hdep ⟨6, .guard⟩ (by simp) rfl).2 _ rfl _ rfl
                  rw [show f 6 = _ from hJ.vals 6 (hdep ⟨6, .guard⟩ (by simp) rfl).1 (.bool false) (by rw [hT]; rfl)] at kg
                  rw [if_neg (not_wanted rfl rfl rfl kg (by decide))]
                  exact hJ.plain (by decide) (by decide) (Ex.refl _) (fun x hx => by rw [hT] at hx; change none = some x at hx; cases hx)
                · have kg := (hdep ⟨6, .guard⟩ (by simp) rfl).2 _ rfl _ rfl
                  rw [show f 6 = _ from hJ.vals 6 (hdep ⟨6, .guard⟩ (by simp) rfl).1 (.bool false) (by rw [hT]; rfl)] at kg
                  rw [if_neg (not_wanted rfl rfl rfl kg (by decide))]
                  exact hJ.plain (by decide) (by decide) (Ex.refl _) (fun x hx => by rw [hT] at hx; change none = some x at hx; cases hx)
                · have kg := (hdep ⟨6, .guard⟩ (by simp) rfl).2 _ rfl _ rfl
                  rw [show f 6 = _ from hJ.vals 6 (hdep ⟨6, .guard⟩ (by simp) rfl).1 (.bool false) (by rw [hT]; rfl)] at kg
                  rw [if_neg (not_wanted rfl rfl rfl kg (by decide))]
                  exact hJ.plain (by decide) (by decide) (Ex.refl _) (fun x hx => by rw [hT] at hx; change none = some x at hx; cases hx)
                · have kg := (hdep ⟨6, .guard⟩ (by simp) rfl).2 _ rfl _ rfl
                  rw [show f 6 = _ from hJ.vals 6 (hdep ⟨6, .guard⟩ (by simp) rfl).1 (.bool false) (by rw [hT]; rfl)] at kg
                  rw [if_neg (not_wanted rfl rfl rfl kg (by decide))]
                  exact hJ.plain (by decide) (by decide) (Ex.refl _) (fun x hx => by rw [hT] at hx; change none = some x at hx; cases hx)
                · have kg := (hdep ⟨6, .guard⟩ (by simp) rfl).2 _ rfl _ rfl
                  rw [show f 6 = _ from hJ.vals 6 (hdep ⟨6, .guard⟩ (by simp) rfl).1 (.bool false) (by rw [hT]; rfl)] at kg
                  rw [if_neg (not_wanted rfl rfl rfl kg (by decide))]
                  exact hJ.plain (by decide) (by decide) (Ex.refl _) (fun x hx => by rw [hT] at hx; change none = some x at hx; cases hx)
                · have kg := (hdep ⟨6, .guard⟩ (by simp) rfl).2 _ rfl _ rfl
                  rw [show f 6 = _ from hJ.vals 6 (hdep ⟨6, .guard⟩ (by simp) rfl).1 (.bool false) (by rw [hT]; rfl)] at kg
                  rw [if_neg (not_wanted rfl rfl rfl kg (by decide))]
                  exact hJ.plain (by decide) (by decide) (Ex.refl _) (fun x hx => by rw [hT] at hx; change none = some x at hx; cases hx)
                · have kg := (hdep ⟨6, .guard⟩ (by simp) rfl).2 _ rfl _ rfl
                  rw [show f 6 = _ from hJ.vals 6 (hdep ⟨6, .guard⟩ (by simp) rfl).1 (.bool false) (by rw [hT]; rfl)] at kg
                  rw [if_neg (not_wanted rfl rfl rfl kg (by decide))]
                  exact hJ.plain (by decide) (by decide) (Ex.refl _) (fun x hx => by rw [hT] at hx; change none = some x at hx; cases hx)
                · have kg := (hdep ⟨6, .guard⟩ (by simp) rfl).2 _ rfl _ rfl
                  rw [show f 6 = _ from hJ.vals 6 (hdep ⟨6, .guard⟩ (by simp) rfl).1 (.bool false) (by rw [hT]; rfl)] at kg
                  rw [if_neg (not_wanted rfl rfl rfl kg (by decide))]
                  exact hJ.plain (by decide) (by decide) (Ex.refl _) (fun x hx => by rw [hT] at hx; change none = some x at hx; cases hx)
                · have kg := (hdep ⟨1, .guard⟩ (by simp) rfl).2 _ rfl _ rfl
                  rw [show f 1 = _ from hJ.vals 1 (hdep ⟨1, .guard⟩ (by simp) rfl).1 (.bool false) (by rw [hT]; rfl)] at kg
                  rw [if_pos (wanted_of rfl rfl rfl kg)]
                  intro K hK
                  have q43 := (hdep ⟨6, .data⟩ (by simp) rfl).2 _ rfl _ rfl
                  rw [show f 6 = _ from hJ.vals 6 (hdep ⟨6, .data⟩ (by simp) rfl).1 (.bool false) (by rw [hT]; rfl)] at q43
                  have q51 := (hdep ⟨14, .data⟩ (by simp) rfl).2 _ rfl _ rfl
                  rw [Array.getD_eq_getD_getElem?] at q43
                  rw [Array.getD_eq_getD_getElem?] at q51
                  clear hsz hdep hout hlat
                  go_simp
                  exact hK _ _ (hJ.plain (by decide) (by decide) (Ex.refl _) (fun x hx => by rw [hT] at hx; first | exact Option.some.inj hx | simpa using hx))
                · rw [if_pos (by rfl)]
                  intro K hK
                  have q38 := (hdep ⟨1, .data⟩ (by simp) rfl).2 _ rfl _ rfl
                  rw [show f 1 = _ from hJ.vals 1 (hdep ⟨1, .data⟩ (by simp) rfl).1 (.bool false) (by rw [hT]; rfl)] at q38
                  have q52 := (hdep ⟨15, .data⟩ (by simp) rfl).2 _ rfl _ rfl
                  rw [show f 15 = _ from hJ.vals 15 (hdep ⟨15, .data⟩ (by simp) rfl).1 (.bool false) (by rw [hT]; rfl)] at q52
                  rw [Array.getD_eq_getD_getElem?] at q38
                  rw [Array.getD_eq_getD_getElem?] at q52
                  clear hsz hdep hout hlat
                  go_simp
                  exact hK _ _ (hJ.plain (by decide) (by decide) (Ex.refl _) (fun x hx => by rw [hT] at hx; first | exact Option.some.inj hx | simpa using hx))
                · rw [if_pos (by rfl)]
                  intro K hK
                  have q53 := (hdep ⟨16, .data⟩ (by simp) rfl).2 _ rfl _ rfl
                  rw [show f 16 = _ from hJ.vals 16 (hdep ⟨16, .data⟩ (by simp) rfl).1 (.bool false) (by rw [hT]; rfl)] at q53
                  rw [Array.getD_eq_getD_getElem?] at q53
                  clear hsz hdep hout hlat
                  go_simp
                  exact hK _ _ (hJ.plain (by decide) (by decide) (Ex.refl _) (fun x hx => by rw [hT] at hx; first | exact Option.some.inj hx | simpa using hx))
              · intro listed f w2 hall hJ
                have f0 : f 0 = .bool false := hJ.vals 0 (hall 0 (by simp)) _ (by rw [hT]; rfl)
                have f1 : f 1 = .bool false := hJ.vals 1 (hall 1 (by simp)) _ (by rw [hT]; rfl)
                have f2 : f 2 = .pointer (some ⟨g15, 0, none⟩) := hJ.vals 2 (hall 2 (by simp)) _ (by rw [hT]; rfl)
                have f3 : f 3 = .int .i64 z.1 := hJ.vals 3 (hall 3 (by simp)) _ (by rw [hT]; rfl)
                have f4 : f 4 = .int .i64 m := hJ.vals 4 (hall 4 (by simp)) _ (by rw [hT]; rfl)
                have f5 : f 5 = .bool false := hJ.vals 5 (hall 5 (by simp)) _ (by rw [hT]; rfl)
                have f6 : f 6 = .bool false := hJ.vals 6 (hall 6 (by simp)) _ (by rw [hT]; rfl)
                have f15 : f 15 = .bool false := hJ.vals 15 (hall 15 (by simp)) _ (by rw [hT]; rfl)
                have f16 : f 16 = .bool false := hJ.vals 16 (hall 16 (by simp)) _ (by rw [hT]; rfl)
                have f17 : f 17 = .bool false := hJ.vals 17 (hall 17 (by simp)) _ (by rw [hT]; rfl)
                have xw := hJ.ext
                simp only [putAll, Act.put, List.setIfInBounds_toArray, List.set_cons_zero, List.set_cons_succ, Nat.zero_add, Nat.reduceAdd]
                rw [f0, f1, f2, f3, f4, f5, f6, f15, f16, f17]
                clear f0 f1 f2 f3 f4 f5 f6 f15 f16 f17 hJ hall hT
                generalize f 7 = y7
                generalize f 8 = y8
                generalize f 9 = y9
                generalize f 10 = y10
                generalize f 11 = y11
                generalize f 12 = y12
                generalize f 13 = y13
                generalize f 14 = y14
                have d0 := Lib.hid (d0.out.ext xw)
                have l0 := Lib.hid (l0.out.ext xw)
                have z0 := Lib.hid (z0.out.ext xw)
                have bw := Lib.hid (Ex.trans bw.out xw)
                clear xw
                go_wp2_with (first | (with_reducible refine Sm.stop_load59 ?_) | (with_reducible refine Sm.stop_store59 ?_) | (with_reducible refine stop_load45 ?_) | (with_reducible refine stop_store45 ?_))
                go_roundw
                case rel => exact ⟨j + 1, by omega, by go_num, by rw [IV.out], d0, l0, z0, bw⟩
                case measure => simp [intOf]; omega
          · have IV := Lib.hid (show decide ((m, markL (keyL C m) vl pl.l) ∈ q.l.take (j + 1)) = true by
              rw [TK.out, decide_eq_true_iff]
              exact List.mem_append_left _ (of_decide_eq_true HIN.out.symm))
            go_wp2_with (first | (with_reducible refine stop_load88 ?_) | (with_reducible refine stop_store88 ?_) | (with_reducible refine Sm.stop_load59 ?_) | (with_reducible refine Sm.stop_store59 ?_) | (with_reducible refine stop_load45 ?_) | (with_reducible refine stop_store45 ?_))
            obtain ⟨T, hT⟩ : ∃ T : List (Option Value), T = [some (.bool true), some (.bool true), none, none, none, none, some (undef), none, none, none, none, none, none, none, none, none, some (.bool true), some (.bool true)] := ⟨_, rfl⟩
            refine wp_region_gen (JL w5 T 1000 1001 0 #[] #[]) (by kernel_rfl) (by kernel_rfl) (by kernel_rfl) (fitB_spec (by kernel_rfl)) (fun listed f h => JL.start _ listed f h) ?_ ?_
            · intro i o ho
              have hi : i < 18 := (Array.getElem?_eq_some_iff.1 ho).1
              have hi' : i = 0 ∨ i = 1 ∨ i = 2 ∨ i = 3 ∨ i = 4 ∨ i = 5 ∨ i = 6 ∨ i = 7 ∨ i = 8 ∨ i = 9 ∨ i = 10 ∨ i = 11 ∨ i = 12 ∨ i = 13 ∨ i = 14 ∨ i = 15 ∨ i = 16 ∨ i = 17 := by omega
              clear hi
              rcases hi' with rfl | rfl | rfl | rfl | rfl | rfl | rfl | rfl | rfl | rfl | rfl | rfl | rfl | rfl | rfl | rfl | rfl | rfl
              all_goals (simp only [List.getElem?_toArray, List.getElem?_cons_zero, List.getElem?_cons_succ, Option.some.injEq] at ho; subst ho; intro listed f a w2 hJ hsz hls hun hdep hout hlat)
              · rw [if_pos (by rfl)]
                intro K hK
                have q13 := hlat 13 17 _ rfl rfl ⟨⟨0, .phase⟩, by simp, rfl, rfl⟩
                refine wp_mv _ rfl (hK _ _ ?_)
                rw [show a.eval (.tmp 13) = .bool true from q13]
                exact hJ.plain (by decide) (by decide) (Ex.refl _) (fun x hx => by rw [hT] at hx; first | exact Option.some.inj hx | simpa using hx)
              · rw [if_pos (by rfl)]
                intro K hK
                have q37 := (hdep ⟨0, .data⟩ (by simp) rfl).2 _ rfl _ rfl
                rw [show f 0 = _ from hJ.vals 0 (hdep ⟨0, .data⟩ (by simp) rfl).1 (.bool true) (by rw [hT]; rfl)] at q37
                refine wp_mv _ rfl (hK _ _ ?_)
                rw [show a.eval (.tmp 37) = .bool true from q37]
                exact hJ.plain (by decide) (by decide) (Ex.refl _) (fun x hx => by rw [hT] at hx; first | exact Option.some.inj hx | simpa using hx)
              · have kg := (hdep ⟨1, .guard⟩ (by simp) rfl).2 _ rfl _ rfl
                rw [show f 1 = _ from hJ.vals 1 (hdep ⟨1, .guard⟩ (by simp) rfl).1 (.bool true) (by rw [hT]; rfl)] at kg
                rw [if_neg (not_wanted rfl rfl rfl kg (by decide))]
                exact hJ.plain (by decide) (by decide) (Ex.refl _) (fun x hx => by rw [hT] at hx; change none = some x at hx; cases hx)
              · have kg := (hdep ⟨1, .guard⟩ (by simp) rfl).2 _ rfl _ rfl
                rw [show f 1 = _ from hJ.vals 1 (hdep ⟨1, .guard⟩ (by simp) rfl).1 (.bool true) (by rw [hT]; rfl)] at kg
                rw [if_neg (not_wanted rfl rfl rfl kg (by decide))]
                exact hJ.plain (by decide) (by decide) (Ex.refl _) (fun x hx => by rw [hT] at hx; change none = some x at hx; cases hx)
              · have kg := (hdep ⟨1, .guard⟩ (by simp) rfl).2 _ rfl _ rfl
                rw [show f 1 = _ from hJ.vals 1 (hdep ⟨1, .guard⟩ (by simp) rfl).1 (.bool true) (by rw [hT]; rfl)] at kg
                rw [if_neg (not_wanted rfl rfl rfl kg (by decide))]
                exact hJ.plain (by decide) (by decide) (Ex.refl _) (fun x hx => by rw [hT] at hx; change none = some x at hx; cases hx)
              · have kg := (hdep ⟨1, .guard⟩ (by simp) rfl).2 _ rfl _ rfl
                rw [show f 1 = _ from hJ.vals 1 (hdep ⟨1, .guard⟩ (by simp) rfl).1 (.bool true) (by rw [hT]; rfl)] at kg
                rw [if_neg (not_wanted rfl rfl rfl kg (by decide))]
                exact hJ.plain (by decide) (by decide) (Ex.refl _) (fun x hx => by rw [hT] at hx; change none = some x at hx; cases hx)
              · have kg := (hdep ⟨1, .guard⟩ (by simp) rfl).2 _ rfl _ rfl
                rw [show f 1 = _ from hJ.vals 1 (hdep ⟨1, .guard⟩ (by simp) rfl).1 (.bool true) (by rw [hT]; rfl)] at kg
                rw [if_neg (not_wanted rfl rfl rfl kg (by decide))]
                exact hJ.plain (by decide) (by decide) (Ex.refl _) (fun x hx => by rw [hT] at hx; first | exact Option.some.inj hx | simpa using hx)
              · have kg := (hdep ⟨6, .guard⟩ (by simp) rfl).2 _ rfl _ rfl
                rw [show f 6 = _ from hJ.vals 6 (hdep ⟨6, .guard⟩ (by simp) rfl).1 (undef) (by rw [hT]; rfl)] at kg
                rw [if_neg (not_wanted_x rfl rfl rfl kg (by simp [undef]))]
                exact hJ.plain (by decide) (by decide) (Ex.refl _) (fun x hx => by rw [hT] at hx; change none = some x at hx; cases hx)
              · have kg := (hdep ⟨6, .guard⟩ (by simp) rfl).2 _ rfl _ rfl
                rw [show f 6 = _ from hJ.vals 6 (hdep ⟨6, .guard⟩ (by simp) rfl).1 (undef) (by rw [hT]; rfl)] at kg
                rw [if_neg (not_wanted_x rfl rfl rfl kg (by simp [undef]))]
                exact hJ.plain (by decide) (by decide) (Ex.refl _) (fun x hx => by rw [hT] at hx; change none = some x at hx; cases hx)
              · have kg := (hdep ⟨6, .guard⟩ (by simp) rfl).2 _ rfl _ rfl
                rw [show f 6 = _ from hJ.vals 6 (hdep ⟨6, .guard⟩ (by simp) rfl).1 (undef) (by rw [hT]; rfl)] at kg
                rw [if_neg (not_wanted_x rfl rfl rfl kg (by simp [undef]))]
                exact hJ.plain (by decide) (by decide) (Ex.refl _) (fun x hx => by rw [hT] at hx; change none = some x at hx; cases hx)
              · have kg := (hdep ⟨6, .guard⟩ (by simp) rfl).2 _ rfl _ rfl
                rw [show f 6 = _ from hJ.vals 6 (hdep ⟨6, .guard⟩ (by simp) rfl).1 (undef) (by rw [hT]; rfl)] at kg
                rw [if_neg (not_wanted_x rfl rfl rfl kg (by simp [undef]))]
                exact hJ.plain (by decide) (by decide) (Ex.refl _) (fun x hx => by rw [hT] at hx; change none = some x at hx; cases hx)
              · have kg := (hdep ⟨6, .guard⟩ (by simp) rfl).2 _ rfl _ rfl
                rw [show f 6 = _ from hJ.vals 6 (hdep ⟨6, .guard⟩ (by simp) rfl).1 (undef) (by rw [hT]; rfl)] at kg
                rw [if_neg (not_wanted_x rfl rfl rfl kg (by simp [undef]))]
                exact hJ.plain (by decide) (by decide) (Ex.refl _) (fun x hx => by rw [hT] at hx; change none = some x at hx; cases hx)
              · have kg := (hdep ⟨6, .guard⟩ (by simp) rfl).2 _ rfl _ rfl
                rw [show f 6 = _ from hJ.vals 6 (hdep ⟨6, .guard⟩ (by simp) rfl).1 (undef) (by rw [hT]; rfl)] at kg
                rw [if_neg (not_wanted_x rfl rfl rfl kg (by simp [undef]))]
                exact hJ.plain (by decide) (by decide) (Ex.refl _) (fun x hx => by rw [hT] at hx; change none = some x at hx; cases hx)
              · have kg := (hdep ⟨6, .guard⟩ (by simp) rfl).2 _ rfl _ rfl
                rw [show f 6 = _ from hJ.vals 6 (hdep ⟨6, .guard⟩ (by simp) rfl).1 (undef) (by rw [hT]; rfl)] at kg
                rw [if_neg (not_wanted_x rfl rfl rfl kg (by simp [undef]))]
                exact hJ.plain (by decide) (by decide) (Ex.refl _) (fun x hx => by rw [hT] at hx; change none = some x at hx; cases hx)
              · have kg := (hdep ⟨6, .guard⟩ (by simp) rfl).2 _ rfl _ rfl
                rw [show f 6 = _ from hJ.vals 6 (hdep ⟨6, .guard⟩ (by simp) rfl).1 (undef) (by rw [hT]; rfl)] at kg
                rw [if_neg (not_wanted_x rfl rfl rfl kg (by simp [undef]))]
                exact hJ.plain (by decide) (by decide) (Ex.refl _) (fun x hx => by rw [hT] at hx; change none = some x at hx; cases hx)
              · have kg := (hdep ⟨1, .guard⟩ (by simp) rfl).2 _ rfl _ rfl
                rw [show f 1 = _ from hJ.vals 1 (hdep ⟨1, .guard⟩ (by simp) rfl).1 (.bool true) (by rw [hT]; rfl)] at kg
                rw [if_neg (not_wanted rfl rfl rfl kg (by decide))]
                exact hJ.plain (by decide) (by decide) (Ex.refl _) (fun x hx => by rw [hT] at hx; change none = some x at hx; cases hx)
              · rw [if_pos (by rfl)]
                intro K hK
                have q38 := (hdep ⟨1, .data⟩ (by simp) rfl).2 _ rfl _ rfl
                rw [show f 1 = _ from hJ.vals 1 (hdep ⟨1, .data⟩ (by simp) rfl).1 (.bool true) (by rw [hT]; rfl)] at q38
                have q52 := (hdep ⟨15, .data⟩ (by simp) rfl).2 _ rfl _ rfl
                rw [Array.getD_eq_getD_getElem?] at q38
                rw [Array.getD_eq_getD_getElem?] at q52
                clear hsz hdep hout hlat
                go_simp
                exact hK _ _ (hJ.plain (by decide) (by decide) (Ex.refl _) (fun x hx => by rw [hT] at hx; first | exact Option.some.inj hx | simpa using hx))
              · rw [if_pos (by rfl)]
                intro K hK
                have q53 := (hdep ⟨16, .data⟩ (by simp) rfl).2 _ rfl _ rfl
                rw [show f 16 = _ from hJ.vals 16 (hdep ⟨16, .data⟩ (by simp) rfl).1 (.bool true) (by rw [hT]; rfl)] at q53
                rw [Array.getD_eq_getD_getElem?] at q53
                clear hsz hdep hout hlat
                go_simp
                exact hK _ _ (hJ.plain (by decide) (by decide) (Ex.refl _) (fun x hx => by rw [hT] at hx; first | exact Option.some.inj hx | simpa using hx))
            · intro listed f w2 hall hJ
              have f0 : f 0 = .bool true := hJ.vals 0 (hall 0 (by simp)) _ (by rw [hT]; rfl)
              have f1 : f 1 = .bool true := hJ.vals 1 (hall 1 (by simp)) _ (by rw [hT]; rfl)
              have f6 : f 6 = undef := hJ.vals 6 (hall 6 (by simp)) _ (by rw [hT]; rfl)
              have f16 : f 16 = .bool true := hJ.vals 16 (hall 16 (by simp)) _ (by rw [hT]; rfl)
              have f17 : f 17 = .bool true := hJ.vals 17 (hall 17 (by simp)) _ (by rw [hT]; rfl)
              have xw := hJ.ext
              simp only [putAll, Act.put, List.setIfInBounds_toArray, List.set_cons_zero, List.set_cons_succ, Nat.zero_add, Nat.reduceAdd]
              rw [f0, f1, f6, f16, f17]
              clear f0 f1 f6 f16 f17 hJ hall hT
              generalize f 2 = y2
              generalize f 3 = y3
              generalize f 4 = y4
              generalize f 5 = y5
              generalize f 7 = y7
              generalize f 8 = y8
              generalize f 9 = y9
              generalize f 10 = y10
              generalize f 11 = y11
              generalize f 12 = y12
              generalize f 13 = y13
              generalize f 14 = y14
              generalize f 15 = y15
              have d0 := Lib.hid (d0.out.ext xw)
              have l0 := Lib.hid (l0.out.ext xw)
              have z0 := Lib.hid (z0.out.ext xw)
              have bw := Lib.hid (Ex.trans bw.out xw)
              clear xw
              go_wp2_with (first | (with_reducible refine Sm.stop_load59 ?_) | (with_reducible refine Sm.stop_store59 ?_) | (with_reducible refine stop_load45 ?_) | (with_reducible refine stop_store45 ?_))
              go_roundw
              case rel => exact ⟨j + 1, by omega, by go_num, by rw [IV.out], d0, l0, z0, bw⟩
              case measure => simp [intOf]; omega
        · obtain rfl : j = nq := by omega
          have TQ := Lib.hid (show q.l.take j = q.l by rw [HNQ.out, List.take_length])
          rw [TQ.out]
          obtain ⟨yes, hyes⟩ : ∃ yes, yes = decide ((m, markL (keyL C m) vl pl.l) ∈ q.l) := ⟨_, rfl⟩
          rw [← hyes] at CS1 ⊢
          have hk := HK.out
          have hlt2 := HLT.out
          clear hyes hlt hLq
          cases yes
          · go_wp2_with (first | (with_reducible refine Sm.stop_load59 ?_) | (with_reducible refine Sm.stop_store59 ?_) | (with_reducible refine stop_load45 ?_) | (with_reducible refine stop_store45 ?_))
            go_roundw
            case rel => exact ⟨k + 1, by omega, by go_num, by rw [CS1.out]; rfl, d0, l0, z0, bw⟩
            case measure => simp [intOf]; omega
          · go_wp2_with (first | (with_reducible refine Sm.stop_load59 ?_) | (with_reducible refine Sm.stop_store59 ?_) | (with_reducible refine stop_load45 ?_) | (with_reducible refine stop_store45 ?_))
            go_roundw
            case rel => exact ⟨k + 1, by omega, by go_num, by rw [CS1.out]; simp only [if_true]; go_num, d0, l0, z0, bw⟩
            case measure => simp [intOf]; omega
    · obtain rfl : k = n := by omega
      have TK := Lib.hid (show pb.l.take k = pb.l by rw [HN.out, List.take_length])
      rw [TK.out]
      obtain ⟨cn, hcn⟩ : ∃ cn, cn = cntN C vl pl.l q.l pb.l := ⟨_, rfl⟩
      rw [← hcn]
      have HCN := Lib.hid hcn
      clear hcn
      go_wp2_with (first | (with_reducible refine Sm.stop_load59 ?_) | (with_reducible refine Sm.stop_store59 ?_) | (with_reducible refine stop_load45 ?_) | (with_reducible refine stop_store45 ?_))
      (with_reducible refine ⟨?_⟩); (with_reducible refine at_any ?_ ?_); (focus go_simp); refine fun K0 hK => wp_ld45g _ (B + 1) _ _ rfl rfl l0.out (hK _ _ ?_)
      clear hK
      have MJ1 := Lib.hid (MJ.out wr bw.out)
      unfold LV at MJ1
      rw [show pb.V = mb from HMB.out.symm] at MJ1
      go_wp2_with (first | (with_reducible refine Sm.stop_load59 ?_) | (with_reducible refine Sm.stop_store59 ?_) | (with_reducible refine stop_load45 ?_) | (with_reducible refine stop_store45 ?_))
      refine MJ1.out.mono ?_
      rintro e w3 ⟨rfl, xr⟩
      have bw := Lib.hid (Ex.trans bw.out xr)
      clear MJ1 xr
      go_wp2_with (first | (with_reducible refine Sm.stop_load59 ?_) | (with_reducible refine Sm.stop_store59 ?_) | (with_reducible refine stop_load45 ?_) | (with_reducible refine stop_store45 ?_))
      go_ret2
      exact ⟨ret_eq (by rw [HCN.out]; rfl), bw.out⟩
theorem rcheck_any (C : List UInt8) (hC : C.length = 16) (vb vl : Int) (hv0 : 0 ≤ vl) (hv1 : vl < 18446744073709551616) (pb pl : Pt) (q : Vp) (w : World) (hb : pb.In w w.heap.size) (hl : pl.In w w.heap.size) (hq : q.In w w.heap.size) (hL : q.l.length ≤ 9223372036854775807) :
    Calls Try.prog 54 #[digV C, LV vb pb, LV vl pl, q.V] w fun e w' => e = .returned (.tuple #[.int .i64 (chkN C vb pb.l vl pl.l q.l : Nat), .bool (chkB C vb pb.l vl pl.l q.l)]) ∧ Below w.heap.size w w' := by
  unfold chkN chkB
  cases h1 : rightB vb pb.l
  · exact rcheck_no1 C hC vb vl hv0 hv1 pb pl q w hb hl hq hL h1
  · cases h2 : rightB vl pl.l
    · exact rcheck_no2 C hC vb vl hv0 hv1 pb pl q w hb hl hq hL h1 h2
    · exact rcheck_go C hC vb vl hv0 hv1 pb pl q w hb hl hq hL h1 h2
end Go.Proofs.Ytgoiidpcdifojaa
