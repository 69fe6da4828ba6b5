/- Ro, Sj -/
import Derived.Test.YtmjfnpmnhehnkaaQbg
import Derived.ChangeSlices
import Derived.Deep.Slices
import Derived.Deep.Fields
import Derived.OpenShut
set_option maxRecDepth 100000
set_option maxHeartbeats 16000000
namespace Go.Proofs.Ytmjfnpmnhehnkaa
open Go.RowKit
def partP (m n s : Int) (q : Pa) (xs : List Vt) : Prop := ((0 ≤ q.role ∧ q.role ≤ 2) ∧ (1 ≤ q.ep ∧ q.ep ≤ 1099511627776) ∧ (q.role = 0 → xs.length = 0) ∧ Rising xs) ∧ ((q.role = 2 → 0 ≤ q.tw ∧ q.tw < n ∧ q.tw ≠ m) ∧ (q.role ≠ 2 → q.tw = 0)) ∧ AllOf xs s
def BNot (b : Bool) (P : Prop) : Prop := b = true ↔ ¬ P
theorem ex_bool (P : Prop) : ∃ b : Bool, BNot b P := ⟨@decide (¬ P) (Classical.propDecidable _), by unfold BNot; simp⟩
theorem rlent_any (w0 : World) (M : Nat) (m n : Int) (p : Nat → Pa) (R : Nat → Value) (xs : Nat → List Vt) (w : World) (h : RS w0 w M m n p R xs) : Calls Try.prog 96 #[.pointer (some ⟨M, 0, none⟩)] w (LentPost (lentL p 16) w) := by
  have HS := Hi h
  clear h
  go_enter Try.func96, Try.ntmps96
  go_wp2_with fail
  go_loopw [3, 4] (fun v9 i wr => ∃ k : Nat, k ≤ 16 ∧ i = .int .i64 k ∧ Hid (wr.ownsRow w.heap.size 3 1 v9 (lentL p k).length ((lentL p k).flatMap intC)) ∧ Hid (Ex w wr)) (fun _ i _ => 16 - (intOf i).toNat)
  case atStart => exact ⟨0, by omega, rfl, Hi (World.ownsRow_nil _ _ _ _), Hi (Ex.refl _)⟩
  obtain ⟨k, hk, rfl, RW, BW⟩ := hrel
  by_cases hlt : k < 16
  rotate_left
  · skip
    obtain rfl : k = 16 := by omega
    go_wp2_with fail
    go_ret
    exact ⟨_, rfl, RW.out, BW.out⟩
  skip
  have q0 : (0 : Int) ≤ (k : Int) := by omega
  have q1 : (k : Int) < 16 := by omega
  have c0 := ((HS.out.ext BW.out).cells hlt).1
  have HLS := Hi (lentL_succ p k)
  have hll := lentL_len p k
  obtain ⟨rl, hrl⟩ : ∃ x, x = (p k).role := ⟨_, rfl⟩
  rw [← hrl] at c0 HLS
  clear hrl
  by_cases h2 : rl = 2
  rotate_left
  · skip
    rw [if_neg h2] at HLS
    go_wp2_with fail
    go_roundw
    case rel => exact ⟨k + 1, by omega, by go_num, Hi (by rw [HLS.out]; exact RW.out), BW⟩
    case measure => simp [intOf]; omega
  skip
  subst h2
  rw [if_pos rfl] at HLS
  go_wp2_with (first | (with_reducible refine stop_app ?_) | (with_reducible refine stop_bs ?_))
  (with_reducible refine ⟨?_⟩)
  go_wp2_with (first | (with_reducible refine stop_app ?_))
  (with_reducible refine ⟨?_⟩)
  change wpList _ _ _ _ _ (wr.alloc (.cells (intC k).toArray 3))
  have xa : Ex wr (wr.alloc (.cells (intC k).toArray 3)) := Ex.alloc _ _
  have NB := Hi (Bk.new (g := wr.heap.size) (w := wr) rfl 3 (intC k).toArray)
  replace RW := Hi (xa.row RW.out)
  replace BW := Hi (Ex.trans BW.out xa)
  generalize hw4 : (wr.alloc (.cells (intC k).toArray 3)) = w4 at *
  generalize wr.heap.size = g4 at *
  clear hw4 xa
  obtain ⟨adx, ex, nx, rx⟩ := Many.rd (n := 1) (sz := 1) ⟨g4, rfl, NB.out⟩ (show (intC k).length = 1 * 1 from rfl)
  cases ex
  have RX := Hi rx
  clear rx nx NB
  (with_reducible refine at_any ?_ ?_); (focus go_simp); refine fun K0 hK => wp_rd _ _ 61 3 (.int .i64 0) 1 8 rfl Try.underlying61 Try.infoI rfl (by decide) w.heap.size (lentL p k).length _ _ rfl RW.out BW.out.sz' _ 1 1 _ rfl RX.out (Nat.le_refl _) (fun h => by cases h) (fun u hu => by rw [List.mem_singleton.1 hu]; rfl) (by omega) (by omega) (fun v5 w5 r1 r2 => hK _ _ ?_)
  clear hK
  have RW2 : Hid (w5.ownsRow w.heap.size 3 1 v5 (lentL p (k + 1)).length ((lentL p (k + 1)).flatMap intC)) := Hi (by rw [HLS.out, List.length_append, List.flatMap_append, List.flatMap_singleton]; exact r1)
  replace BW := Hi (show Ex w w5 from Below.trans (show Below w.heap.size w _ from BW.out) r2.below)
  clear r1 r2 c0
  go_wp2_with fail
  go_roundw
  case rel => exact ⟨k + 1, by omega, by go_num, RW2, BW⟩
  case measure => simp [intOf]; omega
theorem part_any (w0 : World) (M : Nat) (m n : Int) (p : Nat → Pa) (R : Nat → Value) (ys : Nat → List Vt) (s : Int) (hs : i64 s) (q : Pa) (hq : q.Ok) (ad : Option Addr) (cap : Nat) (xs : List Vt) (hcap : cap ≤ 9223372036854775807) (w : World) (hin : Vp.In ad cap xs w) (hvi : ∀ (i : Nat) (x : Vt), xs[i]? = some x → VI w x) (h : RS w0 w M m n p R ys) : Calls Try.prog 85 #[.pointer (some ⟨M, 0, none⟩), .int .i64 s, .agg (partR q (.slice ad xs.length cap)).toArray] w (BPost (partP m n s q xs) w) := by
  obtain ⟨nn, hn⟩ : ∃ n, n = xs.length := ⟨_, rfl⟩
  have HN := Hi hn
  rw [← hn]
  obtain ⟨cs, hcs⟩ : ∃ cs, cs = (partR q (.slice ad nn cap)).toArray := ⟨_, rfl⟩
  have A0 : Hid (Bk (w.alloc (.cells cs 105)) w.heap.size 105 (partR q (.slice ad nn cap)).toArray) := Hi (by rw [hcs]; exact Bk.new rfl _ _)
  have BW : Hid (Ex w (w.alloc (.cells cs 105))) := Hi (Ex.alloc w _)
  have HP := Hi (h.ext BW.out)
  have HIN := Hi (hin.ext BW.out)
  have HVI := Hi (fun (i : Nat) (x : Vt) (hx : xs[i]? = some x) => (hvi i x hx).ext BW.out)
  rw [show (Calls Try.prog 85 #[.pointer (some ⟨M, 0, none⟩), .int .i64 s, .agg (partR q (.slice ad nn cap)).toArray] w) = (Calls Try.prog 85 #[.pointer (some ⟨M, 0, none⟩), .int .i64 s, .agg cs] w) by rw [hcs]]
  have HQ := Hi hq
  have HS := Hi hs
  clear hcs h hin hvi hq hs hn
  obtain ⟨b1, hb1⟩ := ex_bool ((0 ≤ q.role ∧ q.role ≤ 2) ∧ (1 ≤ q.ep ∧ q.ep ≤ 1099511627776) ∧ (q.role = 0 → xs.length = 0) ∧ Rising xs)
  have HB1 := Hi hb1
  obtain ⟨b2, hb2⟩ := ex_bool ((q.role = 2 → 0 ≤ q.tw ∧ q.tw < n ∧ q.tw ≠ m) ∧ (q.role ≠ 2 → q.tw = 0))
  have HB2 := Hi hb2
  clear hb1 hb2
  go_enter Try.func85, Try.ntmps85
  go_upto_region 1 with fail
  change Code.wp _ _ _ _ (w.alloc (.cells cs 105))
  generalize hw1 : (w.alloc (.cells cs 105)) = w1 at *
  clear hw1
  obtain ⟨B, hB⟩ : ∃ B, B = w.heap.size := ⟨_, rfl⟩
  rw [← hB] at A0 ⊢
  clear hB
  have HC := Hi (show ∀ wz, Ex w1 wz → wz.cell? ⟨B, 0, none⟩ = some (.int .i64 q.role) ∧ wz.cell? ⟨B, 1, none⟩ = some (.int .u64 q.ep) ∧ wz.cell? ⟨B, 2, none⟩ = some (.int .i64 q.tw) ∧ wz.cell? ⟨B, 3, none⟩ = some (.slice ad nn cap) from fun wz e => ⟨((A0.out.ext e).cell 0).trans rfl, ((A0.out.ext e).cell 1).trans rfl, ((A0.out.ext e).cell 2).trans rfl, ((A0.out.ext e).cell 3).trans rfl⟩)
  go_cut [42] (fun v wd => v = .bool b1 ∧ Ex w1 wd)
  case first =>
    obtain ⟨c0, c1, _, c3⟩ := HC.out _ (Ex.refl w1)
    by_cases k0 : 0 ≤ q.role
    rotate_left
    · skip
      go_wp2_with fail
      go_meet
      case rel => exact ⟨congrArg Value.bool ((HB1.out.2 (fun h9 => by omega)).symm), Ex.refl _⟩
    skip
    by_cases k1 : q.role ≤ 2
    rotate_left
    · skip
      go_wp2_with fail
      go_meet
      case rel => exact ⟨congrArg Value.bool ((HB1.out.2 (fun h9 => by omega)).symm), Ex.refl _⟩
    skip
    by_cases k2 : 1 ≤ q.ep
    rotate_left
    · skip
      go_wp2_with fail
      go_meet
      case rel => exact ⟨congrArg Value.bool ((HB1.out.2 (fun h9 => by omega)).symm), Ex.refl _⟩
    skip
    by_cases k3 : q.ep ≤ 1099511627776
    rotate_left
    · skip
      go_wp2_with fail
      go_meet
      case rel => exact ⟨congrArg Value.bool ((HB1.out.2 (fun h9 => by omega)).symm), Ex.refl _⟩
    skip
    by_cases r0 : q.role = 0
    · skip
      by_cases n0 : nn = 0
      · have K4 : Hid (q.role = 0 → xs.length = 0) := Hi (fun _ => by rw [← HN.out]; exact n0)
        rw [r0] at c0
        rw [n0] at c3
        go_wp2_with fail
        have hl0 : xs.length = 0 := by rw [← HN.out]; exact n0
        have hca := rising_any ad cap xs hcap w1 HIN.out HVI.out
        rw [hl0] at hca
        refine hca.mono ?_
        rintro e w2 ⟨b, rfl, hb, x2⟩
        have HBR := Hi hb
        have HX2 := Hi x2
        clear hb x2 c0 c1 c3 hca
        cases b
        · have HRS : Hid (¬ Rising xs) := Hi (fun h => by have := HBR.out.2 h; cases this)
          go_wp2_with fail
          go_meet
          case rel => exact ⟨congrArg Value.bool ((HB1.out.2 (fun h9 => HRS.out h9.2.2.2)).symm), HX2.out⟩
        have HRS : Hid (Rising xs) := Hi (HBR.out.1 rfl)
        go_wp2_with fail
        go_meet
        case rel => exact ⟨congrArg Value.bool (by rw [show b1 = false from Bool.eq_false_iff.2 (fun h9 => HB1.out.1 h9 (⟨⟨k0, k1⟩, ⟨k2, k3⟩, K4.out, HRS.out⟩))] <;> first | rfl | (simp; omega)), HX2.out⟩
      have n1 : (0 : Int) < (nn : Int) := by omega
      rw [r0] at c0
      go_wp2_with fail
      go_meet
      case rel => exact ⟨congrArg Value.bool ((HB1.out.2 (fun h9 => n0 (by rw [HN.out]; exact h9.2.2.1 r0))).symm), Ex.refl _⟩
    have K4 : Hid (q.role = 0 → xs.length = 0) := Hi (fun h => absurd h r0)
    go_wp2_with fail
    rw [HN.out]
    refine (rising_any ad cap xs hcap w1 HIN.out HVI.out).mono ?_
    rintro e w2 ⟨b, rfl, hb, x2⟩
    have HBR := Hi hb
    have HX2 := Hi x2
    clear hb x2 c0 c1 c3
    cases b
    · have HRS : Hid (¬ Rising xs) := Hi (fun h => by have := HBR.out.2 h; cases this)
      go_wp2_with fail
      go_meet
      case rel => exact ⟨congrArg Value.bool ((HB1.out.2 (fun h9 => HRS.out h9.2.2.2)).symm), HX2.out⟩
    have HRS : Hid (Rising xs) := Hi (HBR.out.1 rfl)
    go_wp2_with fail
    go_meet
    case rel => exact ⟨congrArg Value.bool (by rw [show b1 = false from Bool.eq_false_iff.2 (fun h9 => HB1.out.1 h9 (⟨⟨k0, k1⟩, ⟨k2, k3⟩, K4.out, HRS.out⟩))] <;> first | rfl | (simp; omega)), HX2.out⟩
  case rest =>
  obtain ⟨rfl, hx9⟩ := hcut
  have X9 := Hi hx9
  clear hx9
  cases b1
  rotate_left
  · skip
    go_wp2_with fail
    go_ret
    exact ⟨false, rfl, ⟨(fun h => by cases h), fun h => absurd h.1 (HB1.out.1 rfl)⟩, Ex.trans BW.out X9.out⟩
  have H1 : Hid ((0 ≤ q.role ∧ q.role ≤ 2) ∧ (1 ≤ q.ep ∧ q.ep ≤ 1099511627776) ∧ (q.role = 0 → xs.length = 0) ∧ Rising xs) := Hi (Classical.byContradiction (fun h => by have := HB1.out.2 h; cases this))
  go_upto_region 3 with fail
  rename World => wa
  go_cut [78] (fun v wd => v = .bool b2 ∧ Ex wa wd)
  case first =>
    by_cases r2 : q.role = 2
    rotate_left
    · have R2 := Hi r2
      clear r2
      by_cases t0 : q.tw = 0
      · skip
        have cq1 := (HC.out _ X9.out).1
        have cq2 := (HC.out _ X9.out).2.2.1
        have cq3 := ((HP.out.ext X9.out).heads).1
        have cq4 := ((HP.out.ext X9.out).heads).2
        have T0 := Hi t0
        rw [t0] at cq2
        clear t0
        have hd0 : (q.role == 2) = false := by simpa using R2.out
        have hd1 : (q.role != 2) = true := by simpa using R2.out
        go_quiet (fail)
        have xx : Ex wa (wa.drewN nq) := ex_drewN wa nq
        generalize hwn : wa.drewN nq = wb at *
        clear hwn
        have XB := Hi xx
        clear xx
        go_wp2_with fail
        go_meet
        case rel => exact ⟨congrArg Value.bool (by rw [show b2 = false from Bool.eq_false_iff.2 (fun h9 => HB2.out.1 h9 (⟨fun h => absurd h R2.out, fun _ => T0.out⟩))] <;> first | rfl | (simp; omega)), XB.out⟩
      skip
      have cq1 := (HC.out _ X9.out).1
      have cq2 := (HC.out _ X9.out).2.2.1
      have cq3 := ((HP.out.ext X9.out).heads).1
      have cq4 := ((HP.out.ext X9.out).heads).2
      have T0 := Hi t0
      have hd0 : (q.role == 2) = false := by simpa using R2.out
      have hd1 : (q.role != 2) = true := by simpa using R2.out
      have hd2 : (q.tw != 0) = true := by simpa using t0
      go_quiet (fail)
      have xx : Ex wa (wa.drewN nq) := ex_drewN wa nq
      generalize hwn : wa.drewN nq = wb at *
      clear hwn
      have XB := Hi xx
      clear xx
      go_wp2_with fail
      go_meet
      case rel => exact ⟨congrArg Value.bool ((HB2.out.2 (fun h9 => T0.out (h9.2 R2.out))).symm), XB.out⟩
    have R2 := Hi r2
    clear r2
    by_cases t0 : 0 ≤ q.tw
    rotate_left
    · skip
      have cq1 := (HC.out _ X9.out).1
      have cq2 := (HC.out _ X9.out).2.2.1
      have cq3 := ((HP.out.ext X9.out).heads).1
      have cq4 := ((HP.out.ext X9.out).heads).2
      have hd0 : decide (q.tw < 0) = true := decide_eq_true (by omega)
      rw [R2.out] at cq1
      go_quiet (fail)
      have xx : Ex wa (wa.drewN nq) := ex_drewN wa nq
      generalize hwn : wa.drewN nq = wb at *
      clear hwn
      have XB := Hi xx
      clear xx
      go_wp2_with fail
      go_meet
      case rel => exact ⟨congrArg Value.bool ((HB2.out.2 (fun h9 => by have := (h9.1 R2.out).1; omega)).symm), XB.out⟩
    skip
    by_cases t1 : q.tw < n
    rotate_left
    · skip
      have cq1 := (HC.out _ X9.out).1
      have cq2 := (HC.out _ X9.out).2.2.1
      have cq3 := ((HP.out.ext X9.out).heads).1
      have cq4 := ((HP.out.ext X9.out).heads).2
      have hd0 : decide (q.tw < 0) = false := decide_eq_false (by omega)
      have hd1 : decide (n ≤ q.tw) = true := decide_eq_true (by omega)
      rw [R2.out] at cq1
      go_quiet (fail)
      have xx : Ex wa (wa.drewN nq) := ex_drewN wa nq
      generalize hwn : wa.drewN nq = wb at *
      clear hwn
      have XB := Hi xx
      clear xx
      go_wp2_with fail
      go_meet
      case rel => exact ⟨congrArg Value.bool ((HB2.out.2 (fun h9 => by have := (h9.1 R2.out).2.1; omega)).symm), XB.out⟩
    skip
    by_cases t2 : q.tw = m
    · skip
      have cq1 := (HC.out _ X9.out).1
      have cq2 := (HC.out _ X9.out).2.2.1
      have cq3 := ((HP.out.ext X9.out).heads).1
      have cq4 := ((HP.out.ext X9.out).heads).2
      rw [R2.out] at cq1
      have hd0 : decide (q.tw < 0) = false := decide_eq_false (by omega)
      have hd1 : decide (n ≤ q.tw) = false := decide_eq_false (by omega)
      have T2 := Hi t2
      rw [t2] at cq2 hd0 hd1
      clear t0 t1 t2
      go_quiet (fail)
      have xx : Ex wa (wa.drewN nq) := ex_drewN wa nq
      generalize hwn : wa.drewN nq = wb at *
      clear hwn
      have XB := Hi xx
      clear xx
      go_wp2_with fail
      go_meet
      case rel => exact ⟨congrArg Value.bool ((HB2.out.2 (fun h9 => (h9.1 R2.out).2.2 T2.out)).symm), XB.out⟩
    skip
    have cq1 := (HC.out _ X9.out).1
    have cq2 := (HC.out _ X9.out).2.2.1
    have cq3 := ((HP.out.ext X9.out).heads).1
    have cq4 := ((HP.out.ext X9.out).heads).2
    rw [R2.out] at cq1
    have T0 := Hi t0
    have T1 := Hi t1
    have T2 := Hi t2
    have hd0 : decide (q.tw < 0) = false := decide_eq_false (by omega)
    have hd1 : decide (n ≤ q.tw) = false := decide_eq_false (by omega)
    have hd2 : (q.tw == m) = false := by simpa using t2
    go_quiet (fail)
    have xx : Ex wa (wa.drewN nq) := ex_drewN wa nq
    generalize hwn : wa.drewN nq = wb at *
    clear hwn
    have XB := Hi xx
    clear xx
    go_wp2_with fail
    go_meet
    case rel => exact ⟨congrArg Value.bool (by rw [show b2 = false from Bool.eq_false_iff.2 (fun h9 => HB2.out.1 h9 (⟨fun _ => ⟨T0.out, T1.out, T2.out⟩, fun h => absurd R2.out h⟩))] <;> first | rfl | (simp; omega)), XB.out⟩
  case rest =>
  obtain ⟨rfl, hx8⟩ := hcut
  replace X9 := Hi (Ex.trans X9.out hx8)
  clear hx8
  cases b2
  rotate_left
  · skip
    go_wp2_with fail
    go_ret
    exact ⟨false, rfl, ⟨(fun h => by cases h), fun h => absurd h.2.1 (HB2.out.1 rfl)⟩, Ex.trans BW.out X9.out⟩
  have H2 : Hid ((q.role = 2 → 0 ≤ q.tw ∧ q.tw < n ∧ q.tw ≠ m) ∧ (q.role ≠ 2 → q.tw = 0)) := Hi (Classical.byContradiction (fun h => by have := HB2.out.2 h; cases this))
  have hn4 : nn ≤ 4 := by rw [HN.out]; exact H1.out.2.2.2.1
  go_wp2_with fail
  go_loopw [7] (fun i wr => ∃ k : Nat, k ≤ nn ∧ i = .int .i64 k ∧ Hid (∀ y ∈ xs.take k, Sm.shV y.id = s) ∧ Hid (Ex w1 wr)) (fun i _ => nn - (intOf i).toNat)
  case atStart => exact ⟨0, by omega, rfl, Hi (fun y hy => by simp at hy), X9⟩
  obtain ⟨k, hk9, rfl, OK, BX⟩ := hrel
  obtain ⟨_, _, _, c3⟩ := HC.out _ BX.out
  by_cases hlt : k < nn
  rotate_left
  · skip
    obtain rfl : k = nn := by omega
    have q1 : ¬ (k : Int) < (k : Int) := by omega
    go_wp2_with fail
    go_ret
    exact ⟨true, rfl, ⟨fun _ => ⟨H1.out, H2.out, fun y hy => OK.out y (by rw [List.take_of_length_le (by rw [← HN.out]; exact Nat.le_refl _)]; exact hy)⟩, fun _ => rfl⟩, Ex.trans BW.out BX.out⟩
  skip
  have q0 : (0 : Int) ≤ (k : Int) := by omega
  have q1 : (k : Int) < (nn : Int) := by omega
  obtain ⟨y, hy⟩ : ∃ z, xs[k]? = some z := ⟨_, List.getElem?_eq_getElem (by rw [← HN.out]; exact hlt)⟩
  obtain ⟨ab, o, rfl, hab, hra⟩ := (HIN.out.ext BX.out).read (by rw [← HN.out]; omega)
  have YO := Hi (HIN.out.ok k y hy)
  have YR : Hid (wr.rangeAt ab (o + k * 42) y.C) := Hi (hra k y hy)
  have HY := Hi hy
  clear hra hy hab
  go_wp2_with ((with_reducible refine so0 ?_ ?_); (focus rfl))
  refine at9 (by go_simp) fun K0 hK => ld_vid9 _ ab (o + k * 42) y YO.out rfl rfl YR.out (hK _ _ ?_)
  clear hK
  go_wp2_with fail
  refine (Sm.rof_any y.id YO.out.idN wr).mono ?_
  rintro e w5 ⟨rfl, x5⟩
  replace BX := Hi (Ex.trans BX.out x5)
  clear x5 YR c3
  by_cases hys : Sm.shV y.id = s
  · have HYS := Hi hys
    rw [hys]
    clear hys
    go_wp2_with fail
    (first | (refine ⟨?_, ?measure⟩; (repeat apply Exists.intro); refine ⟨?rel, rfl⟩) | refine ⟨?rel, ?measure⟩)
    case rel => exact ⟨k + 1, by omega, by go_num, Hi (fun z hz => by
                  rw [List.take_add_one, HY.out, List.mem_append] at hz
                  rcases hz with hz | hz
                  · exact OK.out z hz
                  · simp at hz; rw [hz]; exact HYS.out), BX⟩
    case measure => simp [intOf]; omega
  have HYS := Hi hys
  go_wp2_with fail
  go_ret
  exact ⟨false, rfl, ⟨(fun h => by cases h), fun h => absurd (h.2.2 y (List.mem_of_getElem? HY.out)) HYS.out⟩, Ex.trans BW.out BX.out⟩
end Go.Proofs.Ytmjfnpmnhehnkaa
namespace Go.Proofs.Ytmjfnpmnhehnkaa
open Go.ChangeShapes Go.WideShapes Go.ChangeAt Go.RowKit Go.Deep
end Go.Proofs.Ytmjfnpmnhehnkaa
