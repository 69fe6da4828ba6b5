/- MSmD, MSmE, MSmF, MSmG -/
import Derived.Test.YtopamplmpfndlaaEae
import Derived.Deep.RegionWith
import Derived.Deep.RegionHeld3
import Derived.BigRegion
set_option maxRecDepth 100000
set_option maxHeartbeats 16000000
namespace Go.Proofs.Ytopamplmpfndlaa.Sm
open Go.RowKit
def stirN : Nat → Wd → Wd
 | 0, s => s
 | k + 1, s => stir1 (stirN k s)
theorem stirN_ok {s : Wd} (h : s.Ok) : ∀ k, (stirN k s).Ok
 | 0 => h
 | k + 1 => stir1_ok (stirN_ok h k)
theorem stir_any (s : Wd) (ok : s.Ok) (B k : Nat) (hk : k ≤ 100) (w : World) (hB : Bk w B 163 s.cells) :
  Calls Try.prog 115 #[.pointer (some ⟨B, 0, none⟩), .int .i64 k] w fun e w' => e = .returned (.tuple #[]) ∧ Bk w' B 163 (stirN k s).cells ∧ w.grownBy w' (some B) := by
 have HB := Lib.hid hB
 clear hB
 go_enter Try.func115, Try.ntmps115
 go_wp2
 go_loopw [5] (fun i wr => ∃ j : Nat, j ≤ k ∧ i = .int .i64 j ∧ Bk wr B 163 (stirN j s).cells ∧ w.grownBy wr (some B)) (fun i _ => k - (intOf i).toNat)
 case atStart => exact ⟨0, Nat.zero_le _, rfl, HB.out, only_none _ _⟩
 obtain ⟨j, hj, rfl, hB, hO⟩ := hrel
 clear HB
 by_cases hlt : j < k
 rotate_left
 ·obtain rfl : j = k := by omega
  have HB := Lib.hid hB
  have HO := Lib.hid hO
  clear hB hO
  go_wp2
  go_end0
  exact ⟨rfl, HB.out, HO.out⟩
 have okr := stirN_ok ok j
 obtain ⟨r, hr⟩ : ∃ r, r = stirN j s := ⟨_, rfl⟩
 rw [← hr] at okr hB
 have HR := Lib.hid hr
 clear hr
 obtain ⟨⟨a0, a1⟩, ⟨b0, b1⟩, ⟨c0, c1⟩, ⟨d0, d1⟩⟩ := okr
 have k0 : wr.cell? ⟨B, 0, none⟩ = some (.int .u32 r.a) := hB.cell 0
 have k1 : wr.cell? ⟨B, 1, none⟩ = some (.int .u32 r.b) := hB.cell 1
 have k2 : wr.cell? ⟨B, 2, none⟩ = some (.int .u32 r.c) := hB.cell 2
 have k3 : wr.cell? ⟨B, 3, none⟩ = some (.int .u32 r.d) := hB.cell 3
 have f0 : wr.frozen? ⟨B, 0, none⟩ = false := hB.fr 0
 have f1 : wr.frozen? ⟨B, 1, none⟩ = false := hB.fr 1
 have f2 : wr.frozen? ⟨B, 2, none⟩ = false := hB.fr 2
 have f3 : wr.frozen? ⟨B, 3, none⟩ = false := hB.fr 3
 have HB := Lib.hid hB
 have HO := Lib.hid hO
 clear hB hO
 go_wp2
 go_still_tail 10, (by kernel_rfl)
 change wpList _ _ _ _ _ wr.drew
 go_wp2
 generalize hw : (wr.setCell ⟨B, 0, none⟩ (.int .u32 ((r.a + r.b) % 4294967296))).drew = w0
 have hO : Hid (w.grownBy w0 (some B)) := by rw [← hw]; exact Lib.hid (only_draw (only_put HO.out 0 (.int .u32 ((r.a + r.b) % 4294967296))))
 have hB : Hid (Bk w0 B 163 #[.int .u32 ((r.a + r.b) % 4294967296), .int .u32 r.b, .int .u32 r.c, .int .u32 r.d]) := by rw [← hw]; exact Lib.hid (HB.out.put 0 (.int .u32 ((r.a + r.b) % 4294967296))).draw
 clear hw k0 k1 k2 k3 f0 f1 f2 f3 HO HB
 obtain ⟨v0, hv0⟩ : ∃ v, v = addW r.a r.b := ⟨_, rfl⟩
 have hy0 := addW_w r.a r.b
 rw [show (r.a + r.b) % 4294967296 = v0 from hv0.symm] at hB
 rw [← hv0] at hy0
 have Hv0 := Lib.hid hv0
 clear hv0
 have pv0 := hy0.1
 have qv0 := hy0.2
 clear hy0
 have k0 : w0.cell? ⟨B, 0, none⟩ = some (.int .u32 v0) := hB.out.cell 0
 have k1 : w0.cell? ⟨B, 1, none⟩ = some (.int .u32 r.b) := hB.out.cell 1
 have k2 : w0.cell? ⟨B, 2, none⟩ = some (.int .u32 r.c) := hB.out.cell 2
 have k3 : w0.cell? ⟨B, 3, none⟩ = some (.int .u32 r.d) := hB.out.cell 3
 have f0 : w0.frozen? ⟨B, 0, none⟩ = false := hB.out.fr 0
 have f1 : w0.frozen? ⟨B, 1, none⟩ = false := hB.out.fr 1
 have f2 : w0.frozen? ⟨B, 2, none⟩ = false := hB.out.fr 2
 have f3 : w0.frozen? ⟨B, 3, none⟩ = false := hB.out.fr 3
 have HB := hB
 have HO := hO
 clear hB hO
 go_still_tail 12, (by kernel_rfl)
 have hx1 := xorW_w (x := r.d) (y := v0) ⟨by omega, by omega⟩ ⟨by omega, by omega⟩
 refine wpStill_step (fun K hK => ?_)
 go_simp
 refine ⟨_, flip_calls (rol16 _ hx1 _), hK _ ?_⟩
 clear hK K
 still_step
 refine wpStill_nil ?_
 have hy1 := rotN_w hx1 16
 obtain ⟨v1, hv1⟩ : ∃ v, v = rotN 16 (xorW r.d v0) := ⟨_, rfl⟩
 change wpList _ _ _ _ _ w0.drew
 rw [← hv1] at hy1 ⊢
 have Hv1 := Lib.hid hv1
 clear hv1 hx1
 have pv1 := hy1.1
 have qv1 := hy1.2
 clear hy1
 go_wp2
 generalize hw : (w0.setCell ⟨B, 3, none⟩ (.int .u32 v1)).drew = w1
 have hO : Hid (w.grownBy w1 (some B)) := by rw [← hw]; exact Lib.hid (only_draw (only_put HO.out 3 (.int .u32 v1)))
 have hB : Hid (Bk w1 B 163 #[.int .u32 v0, .int .u32 r.b, .int .u32 r.c, .int .u32 v1]) := by rw [← hw]; exact Lib.hid (HB.out.put 3 (.int .u32 v1)).draw
 clear hw k0 k1 k2 k3 f0 f1 f2 f3 HO HB
 have k0 : w1.cell? ⟨B, 0, none⟩ = some (.int .u32 v0) := hB.out.cell 0
 have k1 : w1.cell? ⟨B, 1, none⟩ = some (.int .u32 r.b) := hB.out.cell 1
 have k2 : w1.cell? ⟨B, 2, none⟩ = some (.int .u32 r.c) := hB.out.cell 2
 have k3 : w1.cell? ⟨B, 3, none⟩ = some (.int .u32 v1) := hB.out.cell 3
 have f0 : w1.frozen? ⟨B, 0, none⟩ = false := hB.out.fr 0
 have f1 : w1.frozen? ⟨B, 1, none⟩ = false := hB.out.fr 1
 have f2 : w1.frozen? ⟨B, 2, none⟩ = false := hB.out.fr 2
 have f3 : w1.frozen? ⟨B, 3, none⟩ = false := hB.out.fr 3
 have HB := hB
 have HO := hO
 clear hB hO
 go_still_tail 10, (by kernel_rfl)
 change wpList _ _ _ _ _ w1.drew
 go_wp2
 generalize hw : (w1.setCell ⟨B, 2, none⟩ (.int .u32 ((r.c + v1) % 4294967296))).drew = w2
 have hO : Hid (w.grownBy w2 (some B)) := by rw [← hw]; exact Lib.hid (only_draw (only_put HO.out 2 (.int .u32 ((r.c + v1) % 4294967296))))
 have hB : Hid (Bk w2 B 163 #[.int .u32 v0, .int .u32 r.b, .int .u32 ((r.c + v1) % 4294967296), .int .u32 v1]) := by rw [← hw]; exact Lib.hid (HB.out.put 2 (.int .u32 ((r.c + v1) % 4294967296))).draw
 clear hw k0 k1 k2 k3 f0 f1 f2 f3 HO HB
 obtain ⟨v2, hv2⟩ : ∃ v, v = addW r.c v1 := ⟨_, rfl⟩
 have hy2 := addW_w r.c v1
 rw [show (r.c + v1) % 4294967296 = v2 from hv2.symm] at hB
 rw [← hv2] at hy2
 have Hv2 := Lib.hid hv2
 clear hv2
 have pv2 := hy2.1
 have qv2 := hy2.2
 clear hy2
 have k0 : w2.cell? ⟨B, 0, none⟩ = some (.int .u32 v0) := hB.out.cell 0
 have k1 : w2.cell? ⟨B, 1, none⟩ = some (.int .u32 r.b) := hB.out.cell 1
 have k2 : w2.cell? ⟨B, 2, none⟩ = some (.int .u32 v2) := hB.out.cell 2
 have k3 : w2.cell? ⟨B, 3, none⟩ = some (.int .u32 v1) := hB.out.cell 3
 have f0 : w2.frozen? ⟨B, 0, none⟩ = false := hB.out.fr 0
 have f1 : w2.frozen? ⟨B, 1, none⟩ = false := hB.out.fr 1
 have f2 : w2.frozen? ⟨B, 2, none⟩ = false := hB.out.fr 2
 have f3 : w2.frozen? ⟨B, 3, none⟩ = false := hB.out.fr 3
 have HB := hB
 have HO := hO
 clear hB hO
 go_still_tail 12, (by kernel_rfl)
 have hx3 := xorW_w (x := r.b) (y := v2) ⟨by omega, by omega⟩ ⟨by omega, by omega⟩
 refine wpStill_step (fun K hK => ?_)
 go_simp
 refine ⟨_, flip_calls (rol12 _ hx3 _), hK _ ?_⟩
 clear hK K
 still_step
 refine wpStill_nil ?_
 have hy3 := rotN_w hx3 12
 obtain ⟨v3, hv3⟩ : ∃ v, v = rotN 12 (xorW r.b v2) := ⟨_, rfl⟩
 change wpList _ _ _ _ _ w2.drew
 rw [← hv3] at hy3 ⊢
 have Hv3 := Lib.hid hv3
 clear hv3 hx3
 have pv3 := hy3.1
 have qv3 := hy3.2
 clear hy3
 go_wp2
 generalize hw : (w2.setCell ⟨B, 1, none⟩ (.int .u32 v3)).drew = w3
 have hO : Hid (w.grownBy w3 (some B)) := by rw [← hw]; exact Lib.hid (only_draw (only_put HO.out 1 (.int .u32 v3)))
 have hB : Hid (Bk w3 B 163 #[.int .u32 v0, .int .u32 v3, .int .u32 v2, .int .u32 v1]) := by rw [← hw]; exact Lib.hid (HB.out.put 1 (.int .u32 v3)).draw
 clear hw k0 k1 k2 k3 f0 f1 f2 f3 HO HB
 have k0 : w3.cell? ⟨B, 0, none⟩ = some (.int .u32 v0) := hB.out.cell 0
 have k1 : w3.cell? ⟨B, 1, none⟩ = some (.int .u32 v3) := hB.out.cell 1
 have k2 : w3.cell? ⟨B, 2, none⟩ = some (.int .u32 v2) := hB.out.cell 2
 have k3 : w3.cell? ⟨B, 3, none⟩ = some (.int .u32 v1) := hB.out.cell 3
 have f0 : w3.frozen? ⟨B, 0, none⟩ = false := hB.out.fr 0
 have f1 : w3.frozen? ⟨B, 1, none⟩ = false := hB.out.fr 1
 have f2 : w3.frozen? ⟨B, 2, none⟩ = false := hB.out.fr 2
 have f3 : w3.frozen? ⟨B, 3, none⟩ = false := hB.out.fr 3
 have HB := hB
 have HO := hO
 clear hB hO
 go_still_tail 10, (by kernel_rfl)
 change wpList _ _ _ _ _ w3.drew
 go_wp2
 generalize hw : (w3.setCell ⟨B, 0, none⟩ (.int .u32 ((v0 + v3) % 4294967296))).drew = w4
 have hO : Hid (w.grownBy w4 (some B)) := by rw [← hw]; exact Lib.hid (only_draw (only_put HO.out 0 (.int .u32 ((v0 + v3) % 4294967296))))
 have hB : Hid (Bk w4 B 163 #[.int .u32 ((v0 + v3) % 4294967296), .int .u32 v3, .int .u32 v2, .int .u32 v1]) := by rw [← hw]; exact Lib.hid (HB.out.put 0 (.int .u32 ((v0 + v3) % 4294967296))).draw
 clear hw k0 k1 k2 k3 f0 f1 f2 f3 HO HB
 obtain ⟨v4, hv4⟩ : ∃ v, v = addW v0 v3 := ⟨_, rfl⟩
 have hy4 := addW_w v0 v3
 rw [show (v0 + v3) % 4294967296 = v4 from hv4.symm] at hB
 rw [← hv4] at hy4
 have Hv4 := Lib.hid hv4
 clear hv4
 have pv4 := hy4.1
 have qv4 := hy4.2
 clear hy4
 have k0 : w4.cell? ⟨B, 0, none⟩ = some (.int .u32 v4) := hB.out.cell 0
 have k1 : w4.cell? ⟨B, 1, none⟩ = some (.int .u32 v3) := hB.out.cell 1
 have k2 : w4.cell? ⟨B, 2, none⟩ = some (.int .u32 v2) := hB.out.cell 2
 have k3 : w4.cell? ⟨B, 3, none⟩ = some (.int .u32 v1) := hB.out.cell 3
 have f0 : w4.frozen? ⟨B, 0, none⟩ = false := hB.out.fr 0
 have f1 : w4.frozen? ⟨B, 1, none⟩ = false := hB.out.fr 1
 have f2 : w4.frozen? ⟨B, 2, none⟩ = false := hB.out.fr 2
 have f3 : w4.frozen? ⟨B, 3, none⟩ = false := hB.out.fr 3
 have HB := hB
 have HO := hO
 clear hB hO
 go_still_tail 12, (by kernel_rfl)
 have hx5 := xorW_w (x := v1) (y := v4) ⟨by omega, by omega⟩ ⟨by omega, by omega⟩
 refine wpStill_step (fun K hK => ?_)
 go_simp
 refine ⟨_, flip_calls (rol8 _ hx5 _), hK _ ?_⟩
 clear hK K
 still_step
 refine wpStill_nil ?_
 have hy5 := rotN_w hx5 8
 obtain ⟨v5, hv5⟩ : ∃ v, v = rotN 8 (xorW v1 v4) := ⟨_, rfl⟩
 change wpList _ _ _ _ _ w4.drew
 rw [← hv5] at hy5 ⊢
 have Hv5 := Lib.hid hv5
 clear hv5 hx5
 have pv5 := hy5.1
 have qv5 := hy5.2
 clear hy5
 go_wp2
 generalize hw : (w4.setCell ⟨B, 3, none⟩ (.int .u32 v5)).drew = w5
 have hO : Hid (w.grownBy w5 (some B)) := by rw [← hw]; exact Lib.hid (only_draw (only_put HO.out 3 (.int .u32 v5)))
 have hB : Hid (Bk w5 B 163 #[.int .u32 v4, .int .u32 v3, .int .u32 v2, .int .u32 v5]) := by rw [← hw]; exact Lib.hid (HB.out.put 3 (.int .u32 v5)).draw
 clear hw k0 k1 k2 k3 f0 f1 f2 f3 HO HB
 have k0 : w5.cell? ⟨B, 0, none⟩ = some (.int .u32 v4) := hB.out.cell 0
 have k1 : w5.cell? ⟨B, 1, none⟩ = some (.int .u32 v3) := hB.out.cell 1
 have k2 : w5.cell? ⟨B, 2, none⟩ = some (.int .u32 v2) := hB.out.cell 2
 have k3 : w5.cell? ⟨B, 3, none⟩ = some (.int .u32 v5) := hB.out.cell 3
 have f0 : w5.frozen? ⟨B, 0, none⟩ = false := hB.out.fr 0
 have f1 : w5.frozen? ⟨B, 1, none⟩ = false := hB.out.fr 1
 have f2 : w5.frozen? ⟨B, 2, none⟩ = false := hB.out.fr 2
 have f3 : w5.frozen? ⟨B, 3, none⟩ = false := hB.out.fr 3
 have HB := hB
 have HO := hO
 clear hB hO
 go_still_tail 10, (by kernel_rfl)
 change wpList _ _ _ _ _ w5.drew
 go_wp2
 generalize hw : (w5.setCell ⟨B, 2, none⟩ (.int .u32 ((v2 + v5) % 4294967296))).drew = w6
 have hO : Hid (w.grownBy w6 (some B)) := by rw [← hw]; exact Lib.hid (only_draw (only_put HO.out 2 (.int .u32 ((v2 + v5) % 4294967296))))
 have hB : Hid (Bk w6 B 163 #[.int .u32 v4, .int .u32 v3, .int .u32 ((v2 + v5) % 4294967296), .int .u32 v5]) := by rw [← hw]; exact Lib.hid (HB.out.put 2 (.int .u32 ((v2 + v5) % 4294967296))).draw
 clear hw k0 k1 k2 k3 f0 f1 f2 f3 HO HB
 obtain ⟨v6, hv6⟩ : ∃ v, v = addW v2 v5 := ⟨_, rfl⟩
 have hy6 := addW_w v2 v5
 rw [show (v2 + v5) % 4294967296 = v6 from hv6.symm] at hB
 rw [← hv6] at hy6
 have Hv6 := Lib.hid hv6
 clear hv6
 have pv6 := hy6.1
 have qv6 := hy6.2
 clear hy6
 have k0 : w6.cell? ⟨B, 0, none⟩ = some (.int .u32 v4) := hB.out.cell 0
 have k1 : w6.cell? ⟨B, 1, none⟩ = some (.int .u32 v3) := hB.out.cell 1
 have k2 : w6.cell? ⟨B, 2, none⟩ = some (.int .u32 v6) := hB.out.cell 2
 have k3 : w6.cell? ⟨B, 3, none⟩ = some (.int .u32 v5) := hB.out.cell 3
 have f0 : w6.frozen? ⟨B, 0, none⟩ = false := hB.out.fr 0
 have f1 : w6.frozen? ⟨B, 1, none⟩ = false := hB.out.fr 1
 have f2 : w6.frozen? ⟨B, 2, none⟩ = false := hB.out.fr 2
 have f3 : w6.frozen? ⟨B, 3, none⟩ = false := hB.out.fr 3
 have HB := hB
 have HO := hO
 clear hB hO
 go_still_tail 12, (by kernel_rfl)
 have hx7 := xorW_w (x := v3) (y := v6) ⟨by omega, by omega⟩ ⟨by omega, by omega⟩
 refine wpStill_step (fun K hK => ?_)
 go_simp
 refine ⟨_, flip_calls (rol7 _ hx7 _), hK _ ?_⟩
 clear hK K
 still_step
 refine wpStill_nil ?_
 have hy7 := rotN_w hx7 7
 obtain ⟨v7, hv7⟩ : ∃ v, v = rotN 7 (xorW v3 v6) := ⟨_, rfl⟩
 change wpList _ _ _ _ _ w6.drew
 rw [← hv7] at hy7 ⊢
 have Hv7 := Lib.hid hv7
 clear hv7 hx7
 have pv7 := hy7.1
 have qv7 := hy7.2
 clear hy7
 go_wp2
 generalize hw : (w6.setCell ⟨B, 1, none⟩ (.int .u32 v7)).drew = w7
 have hO : Hid (w.grownBy w7 (some B)) := by rw [← hw]; exact Lib.hid (only_draw (only_put HO.out 1 (.int .u32 v7)))
 have hB : Hid (Bk w7 B 163 #[.int .u32 v4, .int .u32 v7, .int .u32 v6, .int .u32 v5]) := by rw [← hw]; exact Lib.hid (HB.out.put 1 (.int .u32 v7)).draw
 clear hw k0 k1 k2 k3 f0 f1 f2 f3 HO HB
 have k0 : w7.cell? ⟨B, 0, none⟩ = some (.int .u32 v4) := hB.out.cell 0
 have k1 : w7.cell? ⟨B, 1, none⟩ = some (.int .u32 v7) := hB.out.cell 1
 have k2 : w7.cell? ⟨B, 2, none⟩ = some (.int .u32 v6) := hB.out.cell 2
 have k3 : w7.cell? ⟨B, 3, none⟩ = some (.int .u32 v5) := hB.out.cell 3
 have f0 : w7.frozen? ⟨B, 0, none⟩ = false := hB.out.fr 0
 have f1 : w7.frozen? ⟨B, 1, none⟩ = false := hB.out.fr 1
 have f2 : w7.frozen? ⟨B, 2, none⟩ = false := hB.out.fr 2
 have f3 : w7.frozen? ⟨B, 3, none⟩ = false := hB.out.fr 3
 have HB := hB
 have HO := hO
 clear hB hO
 go_roundw
 case rel =>
  have e0 := Hv0.out
  have e1 := Hv1.out
  have e2 := Hv2.out
  have e3 := Hv3.out
  have e4 := Hv4.out
  have e5 := Hv5.out
  have e6 := Hv6.out
  have e7 := Hv7.out
  have hc : (stir1 r).cells = #[.int .u32 v4, .int .u32 v7, .int .u32 v6, .int .u32 v5] := by
   subst e0; subst e1; subst e2; subst e3; subst e4; subst e5; subst e6; subst e7; rfl
  have hn : stir1 r = stirN (j + 1) s := by rw [HR.out]; rfl
  exact ⟨j + 1, by omega, by go_num, by rw [← hn, hc]; exact HB.out, HO.out⟩
 case measure => simp [intOf]; omega
end Go.Proofs.Ytopamplmpfndlaa.Sm
namespace Go.Proofs.Ytopamplmpfndlaa.Sm
open Go.RowKit
def word4 (a b c d : UInt8) : Int := (a.toNat : Int) + (b.toNat : Int) * 256 + (c.toNat : Int) * 65536 + (d.toNat : Int) * 16777216
theorem u8lt (a : UInt8) : (0 : Int) ≤ (a.toNat : Int) ∧ (a.toNat : Int) < 256 := ⟨by omega, by have := a.toNat_lt; omega⟩
theorem or_join' (i : Nat) (b a : Int) (ha : 0 ≤ a) (ha' : a < 4294967296) (hb : 0 ≤ b) (hb' : b < 4294967296) (h1 : a.toNat % 2 ^ i = 0) (h2 : b.toNat < 2 ^ i) : bits .or .u32 b a = b + a := by
 rw [u32_or b a hb hb' ha ha', Nat.or_comm, nat_join i _ _ h1 h2]; omega
theorem word4_w (a b c d : UInt8) : isW (word4 a b c d) := by
 have := u8lt a; have := u8lt b; have := u8lt c; have := u8lt d
 unfold word4 isW; omega
theorem word_any (A o n c : Nat) (hn : 4 ≤ n) (x0 x1 x2 x3 : UInt8) (w : World)
  (c0 : w.cell? ⟨A, o, none⟩ = some (.int .u8 x0.toNat)) (c1 : w.cell? ⟨A, o + 1, none⟩ = some (.int .u8 x1.toNat)) (c2 : w.cell? ⟨A, o + 2, none⟩ = some (.int .u8 x2.toNat)) (c3 : w.cell? ⟨A, o + 3, none⟩ = some (.int .u8 x3.toNat)) :
  Calls Try.prog 153 #[.slice (some ⟨A, o, none⟩) n c] w fun e w' => e = .returned (.int .u32 (word4 x0 x1 x2 x3)) ∧ ∃ m, w' = w.drewN m := by
 obtain ⟨a0, a1⟩ := u8lt x0
 obtain ⟨b0, b1⟩ := u8lt x1
 obtain ⟨d0, d1⟩ := u8lt x2
 obtain ⟨e0, e1⟩ := u8lt x3
 have n0 : (0 : Int) < (n : Int) := by omega
 have n1 : (1 : Int) < (n : Int) := by omega
 have n2 : (2 : Int) < (n : Int) := by omega
 have n3 : (3 : Int) < (n : Int) := by omega
 go_enter Try.func153, Try.ntmps153
 go_wp2
 go_quiet (fail)
 go_wp2
 go_ret
 refine ⟨smret (congrArg (Value.int .u32) ?_), _, rfl⟩
 rw [or_join' 8 (x0.toNat : Int) ((x1.toNat : Int) * 256) (by omega) (by omega) (by omega) (by omega) (by omega) (by omega), or_join' 16 ((x0.toNat : Int) + (x1.toNat : Int) * 256) ((x2.toNat : Int) * 65536) (by omega) (by omega) (by omega) (by omega) (by omega) (by omega), or_join' 24 ((x0.toNat : Int) + (x1.toNat : Int) * 256 + (x2.toNat : Int) * 65536) ((x3.toNat : Int) * 16777216) (by omega) (by omega) (by omega) (by omega) (by omega) (by omega)]
 unfold word4; omega
theorem rword_any (A o n c : Nat) (hn : 4 ≤ n) (x0 x1 x2 x3 : UInt8) (w : World)
  (c0 : w.cell? ⟨A, o, none⟩ = some (.int .u8 x0.toNat)) (c1 : w.cell? ⟨A, o + 1, none⟩ = some (.int .u8 x1.toNat)) (c2 : w.cell? ⟨A, o + 2, none⟩ = some (.int .u8 x2.toNat)) (c3 : w.cell? ⟨A, o + 3, none⟩ = some (.int .u8 x3.toNat)) :
  Calls Try.prog 117 #[.slice (some ⟨A, o, none⟩) n c] w fun e w' => e = .returned (.int .u32 (word4 x0 x1 x2 x3)) ∧ w = w' := by
 obtain ⟨a0, a1⟩ := u8lt x0
 obtain ⟨b0, b1⟩ := u8lt x1
 obtain ⟨d0, d1⟩ := u8lt x2
 obtain ⟨e0, e1⟩ := u8lt x3
 have n0 : (0 : Int) < (n : Int) := by omega
 have n1 : (1 : Int) < (n : Int) := by omega
 have n2 : (2 : Int) < (n : Int) := by omega
 have n3 : (3 : Int) < (n : Int) := by omega
 go_enter Try.func117, Try.ntmps117
 go_wp2
 refine wp_loop_rounds 5 ?_
 rw [rounds_succ]
 go_wp2
 rw [rounds_succ]
 go_wp2
 rw [rounds_succ]
 go_wp2
 rw [rounds_succ]
 go_wp2
 rw [rounds_succ]
 go_wp2
 go_ret
 refine ⟨smret (congrArg (Value.int .u32) ?_), rfl⟩
 unfold word4; omega
end Go.Proofs.Ytopamplmpfndlaa.Sm
namespace Go.Proofs.Ytopamplmpfndlaa.Sm
open Go.RowKit
theorem only_drawN {a w : World} {row : Option Nat} (h : a.grownBy w row) (n : Nat) : a.grownBy (w.drewN n) row := ⟨h.os, h.tape, h.output, h.size, h.block⟩
theorem Bk.drawN {w : World} {B : Nat} {t : TypeId} {cs : Array Value} (h : Bk w B t cs) (n : Nat) : Bk (w.drewN n) B t cs := h
theorem stir3 (s : Wd) (ok : s.Ok) (B : Nat) (w : World) (hB : Bk w B 163 s.cells) :
  Calls Try.prog 115 #[.pointer (some ⟨B, 0, none⟩), .int .i64 3] w fun e w' => e = .returned (.tuple #[]) ∧ Bk w' B 163 (stirN 3 s).cells ∧ w.grownBy w' (some B) := stir_any s ok B 3 (by omega) w hB
theorem stir8 (s : Wd) (ok : s.Ok) (B : Nat) (w : World) (hB : Bk w B 163 s.cells) :
  Calls Try.prog 115 #[.pointer (some ⟨B, 0, none⟩), .int .i64 8] w fun e w' => e = .returned (.tuple #[]) ∧ Bk w' B 163 (stirN 8 s).cells ∧ w.grownBy w' (some B) := stir_any s ok B 8 (by omega) w hB
theorem only_trans {a b c : World} {row : Option Nat} (h : a.grownBy b row) (k : b.grownBy c row) : a.grownBy c row :=
 ⟨k.os.trans h.os, k.tape.trans h.tape, k.output.trans h.output, Nat.le_trans h.size k.size, fun i hi hne => (k.block i (Nat.lt_of_lt_of_le hi h.size) hne).trans (h.block i hi hne)⟩
def takeW (s : Wd) (x y : Int) : Wd := stirN 3 ⟨xorW s.a x, s.b, s.c, xorW s.d y⟩
theorem take_any (s : Wd) (ok : s.Ok) (B A o n c : Nat) (hn : 8 ≤ n) (hc : n ≤ c) (x0 x1 x2 x3 x4 x5 x6 x7 : UInt8) (w : World) (hB : Bk w B 163 s.cells)
  (c0 : w.cell? ⟨A, o, none⟩ = some (.int .u8 x0.toNat)) (c1 : w.cell? ⟨A, o + 1, none⟩ = some (.int .u8 x1.toNat)) (c2 : w.cell? ⟨A, o + 2, none⟩ = some (.int .u8 x2.toNat)) (c3 : w.cell? ⟨A, o + 3, none⟩ = some (.int .u8 x3.toNat))
  (c4 : w.cell? ⟨A, o + 4, none⟩ = some (.int .u8 x4.toNat)) (c5 : w.cell? ⟨A, o + 5, none⟩ = some (.int .u8 x5.toNat)) (c6 : w.cell? ⟨A, o + 6, none⟩ = some (.int .u8 x6.toNat)) (c7 : w.cell? ⟨A, o + 7, none⟩ = some (.int .u8 x7.toNat)) (hA : A ≠ B) :
  Calls Try.prog 113 #[.pointer (some ⟨B, 0, none⟩), .slice (some ⟨A, o, none⟩) n c] w fun e w' => e = .returned (.tuple #[]) ∧ Bk w' B 163 (takeW s (word4 x0 x1 x2 x3) (word4 x4 x5 x6 x7)).cells ∧ w.grownBy w' (some B) := by
 have C1 := Lib.hid (fun (W : World) h0 h1 h2 h3 => word_any A o n c (by omega) x0 x1 x2 x3 W h0 h1 h2 h3)
 have D1 := Lib.hid (fun (W : World) h0 h1 h2 h3 => word_any A (o + 4) (n - 4) (c - 4) (by omega) x4 x5 x6 x7 W h0 h1 h2 h3)
 have okw := word4_w x0 x1 x2 x3
 have okw2 := word4_w x4 x5 x6 x7
 have oka := ok.a
 have okd := ok.d
 have okn : Wd.Ok ⟨xorW s.a (word4 x0 x1 x2 x3), s.b, s.c, xorW s.d (word4 x4 x5 x6 x7)⟩ := ⟨xorW_w ok.a okw, ok.b, ok.c, xorW_w ok.d okw2⟩
 have k0 : w.cell? ⟨B, 0, none⟩ = some (.int .u32 s.a) := hB.cell 0
 have f0 : w.frozen? ⟨B, 0, none⟩ = false := hB.fr 0
 have HB := Lib.hid hB
 clear hB
 go_enter Try.func113, Try.ntmps113
 go_wp2_with fail
 go_region_with (go_at_call 153; refine (C1.out _ (by simpa using c0) (by simpa using c1) (by simpa using c2) (by simpa using c3)).mono ?_; rintro e w1 ⟨rfl, m, rfl⟩)
 all_goals
  generalize hw : ((w.drewN (1 + m)).setCell ⟨B, 0, none⟩ (.int .u32 (bits BinOp.xor IntKind.u32 s.a (word4 x0 x1 x2 x3)))) = w1
  have hO : Hid (w.grownBy w1 (some B)) := by rw [← hw]; exact Lib.hid (only_put (only_drawN (only_none w _) (1 + m)) 0 _)
  have hB : Hid (Bk w1 B 163 #[.int .u32 (xorW s.a (word4 x0 x1 x2 x3)), .int .u32 s.b, .int .u32 s.c, .int .u32 s.d]) := by rw [← hw]; exact Lib.hid ((HB.out.drawN (1 + m)).put 0 _)
  have far : ∀ i v, w.cell? ⟨A, i, none⟩ = some v → w1.cell? ⟨A, i, none⟩ = some v := by
   intro i v h
   exact hO.out.cell (a := ⟨A, i, none⟩) h (by simpa using hA)
  have e4 := far _ _ c4
  have e5 := far _ _ c5
  have e6 := far _ _ c6
  have e7 := far _ _ c7
  clear hw k0 f0 c0 c1 c2 c3 c4 c5 c6 c7 C1 far HB
  have k3 : w1.cell? ⟨B, 3, none⟩ = some (.int .u32 s.d) := hB.out.cell 3
  have f3 : w1.frozen? ⟨B, 3, none⟩ = false := hB.out.fr 3
  have q4 : (4 : Int) ≤ (n : Int) := by omega
  have q5 : ¬ c = 4 := by omega
  go_wp2_with fail
 all_goals
  go_region_with (go_at_call 153; refine (D1.out _ (by simpa using e4) (by simpa using e5) (by simpa using e6) (by simpa using e7)).mono ?_; rintro e w2 ⟨rfl, m2, rfl⟩)
 all_goals
  generalize hw : ((w1.drewN (1 + m2)).setCell ⟨B, 3, none⟩ (.int .u32 (bits BinOp.xor IntKind.u32 s.d (word4 x4 x5 x6 x7)))) = w2
  have hO2 : Hid (w.grownBy w2 (some B)) := by rw [← hw]; exact Lib.hid (only_put (only_drawN hO.out (1 + m2)) 3 _)
  have hB2 : Bk w2 B 163 (Wd.cells ⟨xorW s.a (word4 x0 x1 x2 x3), s.b, s.c, xorW s.d (word4 x4 x5 x6 x7)⟩) := by rw [← hw]; exact (hB.out.drawN (1 + m2)).put 3 _
  have S := Lib.hid (stir3 _ okn B w2 hB2)
  clear hw hB2 hB hO k3 f3 e4 e5 e6 e7 D1
  go_wp2_with fail
  refine S.out.mono ?_
  rintro e w3 ⟨rfl, h3, o3⟩
  have h3 := Lib.hid h3
  have o3 := Lib.hid o3
  clear S
  go_wp2_with fail
  go_end0
  exact ⟨rfl, h3.out, only_trans hO2.out o3.out⟩
end Go.Proofs.Ytopamplmpfndlaa.Sm
namespace Go.Proofs.Ytopamplmpfndlaa.Sm
open Go.RowKit
def by8 (x : Int) : UInt8 := UInt8.ofNat (x % 256).toNat
theorem by8_int (x : Int) : ((by8 x).toNat : Int) = x % 256 := by
 unfold by8
 have : (x % 256).toNat < 256 := by omega
 rw [UInt8.toNat_ofNat_of_lt' (by simpa using this)]; omega
def digL (s : Wd) : List UInt8 := [by8 s.a, by8 (s.a / 256), by8 (s.a / 65536), by8 (s.a / 16777216), by8 s.b, by8 (s.b / 256), by8 (s.b / 65536), by8 (s.b / 16777216), by8 s.c, by8 (s.c / 256), by8 (s.c / 65536), by8 (s.c / 16777216), by8 s.d, by8 (s.d / 256), by8 (s.d / 65536), by8 (s.d / 16777216)]
theorem digL_len (s : Wd) : (digL s).length = 16 := rfl
def digV (l : List UInt8) : Value := .agg (Lib.byteCells l).toArray
theorem digL_V {s : Wd} (ok : s.Ok) : digV (digL s) = .agg #[.int .u8 (s.a % 256), .int .u8 (s.a / 256 % 256), .int .u8 (s.a / 65536 % 256), .int .u8 (s.a / 16777216), .int .u8 (s.b % 256), .int .u8 (s.b / 256 % 256), .int .u8 (s.b / 65536 % 256), .int .u8 (s.b / 16777216), .int .u8 (s.c % 256), .int .u8 (s.c / 256 % 256), .int .u8 (s.c / 65536 % 256), .int .u8 (s.c / 16777216), .int .u8 (s.d % 256), .int .u8 (s.d / 256 % 256), .int .u8 (s.d / 65536 % 256), .int .u8 (s.d / 16777216)] := by
 obtain ⟨⟨a0, a1⟩, ⟨b0, b1⟩, ⟨c0, c1⟩, ⟨d0, d1⟩⟩ := ok
 have ea : s.a / 16777216 % 256 = s.a / 16777216 := by omega
 have eb : s.b / 16777216 % 256 = s.b / 16777216 := by omega
 have ec : s.c / 16777216 % 256 = s.c / 16777216 := by omega
 have ed : s.d / 16777216 % 256 = s.d / 16777216 := by omega
 unfold digV digL Lib.byteCells
 simp only [List.map_cons, List.map_nil, by8_int, ea, eb, ec, ed]
def lowC (n : Int) : Array Value := #[.int .u8 (n % 256), .int .u8 (n / 256 % 256), .int .u8 (n / 65536 % 256), .int .u8 (n / 16777216 % 256), .int .u8 (n / 4294967296 % 256), .int .u8 (n / 1099511627776 % 256), .int .u8 (n / 281474976710656 % 256), .int .u8 (n / 72057594037927936 % 256)]
theorem lowest_any (n : Int) (h0 : 0 ≤ n) (h1 : n < 18446744073709551616) (w : World) :
  Calls Try.prog 114 #[.int .u64 n] w fun e w' => e = .returned (.slice (some ⟨w.heap.size, 0, none⟩) 8 8) ∧ w' = w.alloc (.cells (lowC n) 5) := by
 have hmk : ∀ w : World, (Instr.makeSlice 23 (.int .i64 8) (.int .i64 8)).run Try.prog w = .ok (.slice (some ⟨w.heap.size, 0, none⟩) 8 8) (w.alloc (.cells #[.int .u8 0, .int .u8 0, .int .u8 0, .int .u8 0, .int .u8 0, .int .u8 0, .int .u8 0, .int .u8 0] 5)) := fun _ => by kernel_rfl
 go_enter Try.func114, Try.ntmps114
 go_wp2
 refine wp_loop_rounds 9 ?_
 rw [rounds_succ]
 go_wp2
 rw [rounds_succ]
 go_wp2
 rw [rounds_succ]
 go_wp2
 rw [rounds_succ]
 go_wp2
 rw [rounds_succ]
 go_wp2
 rw [rounds_succ]
 go_wp2
 rw [rounds_succ]
 go_wp2
 rw [rounds_succ]
 go_wp2
 rw [rounds_succ]
 go_wp2
 go_ret
 have e : n / 72057594037927936 = n / 72057594037927936 % 256 := by omega
 refine ⟨rfl, ?_⟩
 unfold lowC
 rw [← e]
theorem digest_any (s : Wd) (ok : s.Ok) (B : Nat) (w : World) (hB : Bk w B 163 s.cells) :
  Calls Try.prog 116 #[.pointer (some ⟨B, 0, none⟩)] w fun e w' => e = .returned (digV (digL s)) ∧ Below w.heap.size w w' := by
 have hv := Lib.hid (digL_V ok)
 obtain ⟨⟨a0, a1⟩, ⟨b0, b1⟩, ⟨c0, c1⟩, ⟨d0, d1⟩⟩ := ok
 have k0 : w.cell? ⟨B, 0, none⟩ = some (.int .u32 s.a) := hB.cell 0
 have k1 : w.cell? ⟨B, 1, none⟩ = some (.int .u32 s.b) := hB.cell 1
 have k2 : w.cell? ⟨B, 2, none⟩ = some (.int .u32 s.c) := hB.cell 2
 have k3 : w.cell? ⟨B, 3, none⟩ = some (.int .u32 s.d) := hB.cell 3
 have f0 : w.frozen? ⟨B, 0, none⟩ = false := hB.fr 0
 have f1 : w.frozen? ⟨B, 1, none⟩ = false := hB.fr 1
 have f2 : w.frozen? ⟨B, 2, none⟩ = false := hB.fr 2
 have f3 : w.frozen? ⟨B, 3, none⟩ = false := hB.fr 3
 have hlt := World.block_lt_of_cell? w _ k0
 have HB := Lib.hid hB
 clear hB
 go_enter Try.func116, Try.ntmps116
 go_wp2
 refine wp_loop_rounds 17 ?_
 rw [rounds_succ]
 go_wp2
 rw [rounds_succ]
 go_wp2
 rw [rounds_succ]
 go_wp2
 rw [rounds_succ]
 go_wp2
 rw [rounds_succ]
 go_wp2
 rw [rounds_succ]
 go_wp2
 rw [rounds_succ]
 go_wp2
 rw [rounds_succ]
 go_wp2
 rw [rounds_succ]
 go_wp2
 rw [rounds_succ]
 go_wp2
 rw [rounds_succ]
 go_wp2
 rw [rounds_succ]
 go_wp2
 rw [rounds_succ]
 go_wp2
 rw [rounds_succ]
 go_wp2
 rw [rounds_succ]
 go_wp2
 rw [rounds_succ]
 go_wp2
 rw [rounds_succ]
 go_wp2
 rw [hv.out]
 exact bodyPost_ret (v := .agg #[.int .u8 (s.a % 256), .int .u8 (s.a / 256 % 256), .int .u8 (s.a / 65536 % 256), .int .u8 (s.a / 16777216), .int .u8 (s.b % 256), .int .u8 (s.b / 256 % 256), .int .u8 (s.b / 65536 % 256), .int .u8 (s.b / 16777216), .int .u8 (s.c % 256), .int .u8 (s.c / 256 % 256), .int .u8 (s.c / 65536 % 256), .int .u8 (s.c / 16777216), .int .u8 (s.d % 256), .int .u8 (s.d / 256 % 256), .int .u8 (s.d / 65536 % 256), .int .u8 (s.d / 16777216)]) (by simp [results, Try.results116, go_sem]) rfl ⟨rfl, ((Below.refl _ _).alloc (Nat.le_refl _) _).alloc (by simp) _⟩
end Go.Proofs.Ytopamplmpfndlaa.Sm
