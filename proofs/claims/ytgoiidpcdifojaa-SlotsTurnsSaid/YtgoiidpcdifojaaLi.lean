/- known of chapter 7 -/
import Derived.Test.YtgoiidpcdifojaaLg
import Derived.Test.YtgoiidpcdifojaaLh
import Derived.Lib.SlBytesConst
namespace Go.Proofs.Ytgoiidpcdifojaa
open Go.RowKit
open Sm (strL pt_conv)
theorem lit_pt7 (W : World) (l : List UInt8) (fr : Nat × Nat) : (Sm.Pt.mk (some ⟨W.heap.size, 0, none⟩) l.length l).In (W.alloc (.cells (Lib.byteCells l).toArray 5 fr)) (W.alloc (.cells (Lib.byteCells l).toArray 5 fr)).heap.size := by
  refine ⟨Nat.le_refl _, (fun h => by cases h), fun _ => ⟨W.heap.size, 0, rfl, by simp, fun i hi => ?_⟩⟩
  have h := heap_alloc_new W (.cells (Lib.byteCells l).toArray 5 fr)
  unfold World.cell?
  rw [show (⟨W.heap.size, 0 + i, none⟩ : Addr).block = W.heap.size from rfl, h]
  simp only at hi
  simp [Lib.byteCells, List.getD, hi]
def k1 : Dc := putC zeroC 2 [97, 98, 99]
def k2 : Dc := crashC k1 2
def k3 : Dc := putC k2 3 [120]
def k4 : Dc := crashC k3 0
theorem k_facts : getL k2 2 = [97, 98] ∧ getB k2 2 = true ∧ getL k4 3 = [] ∧ getB k4 3 = false ∧ k4.pend = 0 ∧ k1.lst = (2 : Nat) ∧ k3.lst = (3 : Nat) ∧ k2.pend = 0 ∧ (k2.now.getD 2 (false, [])).2 = [97, 98] ∧ (k4.now.getD 3 (false, [])).2 = [] ∧ k1.put = [97, 98, 99] ∧ k3.put = [120] := by decide +kernel
/-- what is carried along -/
structure Kp (w0 : World) (g : Nat) (c : Dc) (w : World) : Prop where
  dk : DK w g c
  bel : Below w0.heap.size w0 w
  hg : w0.heap.size ≤ g
theorem Kp.ext {w0 w w' : World} {g : Nat} {c : Dc} (h : Kp w0 g c w) (k : Ex w w') : Kp w0 g c w' := ⟨h.dk.ext k, Ex.trans h.bel k, h.hg⟩
theorem Kp.md {w0 w w' : World} {g : Nat} {c c' : Dc} (h : Kp w0 g c w) (k : Md g w w') (hd : DK w' g c') : Kp w0 g c' w' := ⟨hd, k.below _ h.hg _ h.bel, h.hg⟩
set_option maxHeartbeats 8000000 in
set_option maxRecDepth 100000 in
theorem known7_any (w : World) : Calls Try.prog 21 #[] w fun e w' => e = .returned (.bool true) ∧ Below w.heap.size w w' := by
  have NW := Lib.hid (new7_any w)
  have F := Lib.hid k_facts
  have hcv := fun (w : World) (C : Array Value) (n c : Nat) => Lib.run_convert_bytes_const (P := Try.prog) w 27 5 C n c Try.underlying27 Try.underlying5
  go_enter Try.func21, Try.ntmps21
  go_wp2_with fail
  refine NW.out.mono ?_
  rintro e w1 ⟨g, rfl, hg, hd, xr⟩
  have K := Lib.hid (show Kp w g zeroC w1 from ⟨hd, xr, hg⟩)
  clear NW hg hd xr
  have xa : Ex w1 (w1.alloc (.cells #[.int .u8 97, .int .u8 98, .int .u8 99] 5 (3, 4))) := (Below.refl _ _).alloc (Nat.le_refl _) _
  have PI := Lib.hid (show (Sm.Pt.mk (some ⟨w1.heap.size, 0, none⟩) 3 [97, 98, 99]).In (w1.alloc (.cells #[.int .u8 97, .int .u8 98, .int .u8 99] 5 (3, 4))) (w1.alloc (.cells #[.int .u8 97, .int .u8 98, .int .u8 99] 5 (3, 4))).heap.size from lit_pt7 w1 [97, 98, 99] (3, 4))
  have K1 := Lib.hid (K.out.ext xa)
  have P1 := Lib.hid (show Calls Try.prog 14 #[.pointer (some ⟨g, 0, none⟩), .int .i64 2, .slice (some ⟨w1.heap.size, 0, none⟩) 3 3] (w1.alloc (.cells #[.int .u8 97, .int .u8 98, .int .u8 99] 5 (3, 4))) (MdPostB g k1 true (w1.alloc (.cells #[.int .u8 97, .int .u8 98, .int .u8 99] 5 (3, 4)))) from put_go g 2 (by decide) ⟨some ⟨w1.heap.size, 0, none⟩, 3, [97, 98, 99]⟩ (show 3 ≤ 8192 by decide) zeroC (by decide) (by decide) _ K1.out.dk PI.out)
  clear xa
  go_wp2_with fail
  refine P1.out.mono ?_
  rintro e w2 ⟨rfl, hk, m2⟩
  have K2 := Lib.hid (show Kp w g k1 w2 from K1.out.md m2 hk)
  have PN := Lib.hid (put_no g 99 (by decide) (.slice none 0 0) w2)
  clear K K1 PI P1 hk m2
  go_wp2_with fail
  refine PN.out.mono ?_
  rintro e w2' ⟨rfl, rfl⟩
  clear PN
  have C1 := Lib.hid (show Calls Try.prog 19 #[.pointer (some ⟨g, 0, none⟩), .int .i64 2] w2 (MdPost g k2 w2) from crash_any g 2 (by decide) k1 _ K2.out.dk 2 (by decide) F.out.2.2.2.2.2.1 (by rw [F.out.2.2.2.2.2.2.2.2.2.2.1]; decide))
  go_wp2_with fail
  refine C1.out.mono ?_
  rintro e w3 ⟨rfl, hk, m2⟩
  have K3 := Lib.hid (show Kp w g k2 w3 from K2.out.md m2 hk)
  clear C1 K2 hk m2
  have G1 := Lib.hid (show Calls Try.prog 20 #[.pointer (some ⟨g, 0, none⟩), .int .i64 2] w3 (GetPost [97, 98] true w3) by
    have h := get_any g 2 (by decide) k2 w3 K3.out.dk (by rw [F.out.2.2.2.2.2.2.2.2.1]; decide)
    rw [F.out.1, F.out.2.1] at h; exact h)
  go_wp2_with fail
  refine G1.out.mono ?_
  rintro e w4 ⟨q, rfl, hql, hqi, xr⟩
  have K4 := Lib.hid (K3.out.ext xr)
  have HQ := Lib.hid hql
  have HI := Lib.hid hqi
  clear G1 K3 hql hqi xr
  have xa : Ex w4 (w4.alloc (.cells #[.int .u8 120] 5 (1, 2))) := (Below.refl _ _).alloc (Nat.le_refl _) _
  have PI := Lib.hid (show (Sm.Pt.mk (some ⟨w4.heap.size, 0, none⟩) 1 [120]).In (w4.alloc (.cells #[.int .u8 120] 5 (1, 2))) (w4.alloc (.cells #[.int .u8 120] 5 (1, 2))).heap.size from lit_pt7 w4 [120] (1, 2))
  have K5 := Lib.hid (K4.out.ext xa)
  have HI5 := Lib.hid (Sm.Pt.In.ext HI.out xa)
  have P1 := Lib.hid (show Calls Try.prog 14 #[.pointer (some ⟨g, 0, none⟩), .int .i64 3, .slice (some ⟨w4.heap.size, 0, none⟩) 1 1] (w4.alloc (.cells #[.int .u8 120] 5 (1, 2))) (MdPostB g k3 true (w4.alloc (.cells #[.int .u8 120] 5 (1, 2)))) from put_go g 3 (by decide) ⟨some ⟨w4.heap.size, 0, none⟩, 1, [120]⟩ (show 1 ≤ 8192 by decide) k2 (by rw [F.out.2.2.2.2.2.2.2.1]; decide) (by rw [F.out.2.2.2.2.2.2.2.1]; decide) _ K5.out.dk PI.out)
  clear xa K4 HI
  go_wp2_with fail
  refine P1.out.mono ?_
  rintro e w5 ⟨rfl, hk, m2⟩
  have K6 := Lib.hid (show Kp w g k3 w5 from K5.out.md m2 hk)
  have HI6 : Hid (q.In w5 w5.heap.size) := Lib.hid (by
    obtain ⟨d, hd, _⟩ := K5.out.dk
    exact pt_md HI5.out hd.blk m2)
  clear K5 PI P1 hk m2 HI5
  have C1 := Lib.hid (show Calls Try.prog 19 #[.pointer (some ⟨g, 0, none⟩), .int .i64 0] w5 (MdPost g k4 w5) from crash_any g 0 (by decide) k3 _ K6.out.dk 3 (by decide) F.out.2.2.2.2.2.2.1 (by rw [F.out.2.2.2.2.2.2.2.2.2.2.2]; decide))
  go_wp2_with fail
  refine C1.out.mono ?_
  rintro e w6 ⟨rfl, hk, m2⟩
  have K7 := Lib.hid (show Kp w g k4 w6 from K6.out.md m2 hk)
  have HI7 : Hid (q.In w6 w6.heap.size) := Lib.hid (by
    obtain ⟨d, hd, _⟩ := K6.out.dk
    exact pt_md HI6.out hd.blk m2)
  clear C1 K6 hk m2 HI6
  have G1 := Lib.hid (show Calls Try.prog 20 #[.pointer (some ⟨g, 0, none⟩), .int .i64 3] w6 (GetPost [] false w6) by
    have h := get_any g 3 (by decide) k4 w6 K7.out.dk (by rw [F.out.2.2.2.2.2.2.2.2.2.1]; decide)
    rw [F.out.2.2.1, F.out.2.2.2.1] at h; exact h)
  go_wp2_with fail
  refine G1.out.mono ?_
  rintro e w7 ⟨q2, rfl, hql2, hqi2, xr⟩
  have K8 := Lib.hid (K7.out.ext xr)
  have HI8 := Lib.hid (Sm.Pt.In.ext HI7.out xr)
  have cv := pt_conv q w7 HI8.out
  rw [HQ.out] at cv
  have cv : (convert 27 9 (.slice q.ad q.l.length q.cap)).run Try.prog w7 = .ok (.string ⟨#[97, 98]⟩) w7 := by rw [HQ.out]; exact cv
  have PD := Lib.hid (show Calls Try.prog 46 #[.pointer (some ⟨g, 0, none⟩)] w7 fun e w' => e = .returned (.int .i64 0) ∧ w7 = w' by
    have h := pending_any g k4 w7 K8.out.dk
    rw [F.out.2.2.2.2.1] at h; exact h)
  obtain ⟨bw⟩ : Nonempty (Below w.heap.size w w7) := ⟨K8.out.bel⟩
  unfold Sm.Pt.V
  clear G1 K7 HI7 hql2 hqi2 xr F K8 HI8 HQ
  go_wp2_with fail
  refine PD.out.mono ?_
  rintro e w8 ⟨rfl, rfl⟩
  clear PD
  go_wp2_with fail
  go_ret
  exact ⟨rfl, bw⟩
end Go.Proofs.Ytgoiidpcdifojaa
