/- walks: stir of blend's words -/
import Derived.Test.YtmjfnpmnhehnkaaSmC
namespace Go.Proofs.Ytmjfnpmnhehnkaa.Sm
open Go.RowKit
def stirN : Nat → Wd → Wd
  | 0, s => s
  | k + 1, s => stir1 (stirN k s)
theorem stirN_ok {s : Wd} (h : s.Ok) : ∀ k, (stirN k s).Ok
  | 0 => h
  | k + 1 => stir1_ok (stirN_ok h k)
set_option maxHeartbeats 8000000 in
set_option maxRecDepth 100000 in
theorem stir_any (s : Wd) (ok : s.Ok) (B k : Nat) (hk : k ≤ 100) (w : World) (hB : Bk w B 193 s.cells) :
    Calls Try.prog 128 #[.pointer (some ⟨B, 0, none⟩), .int .i64 k] w fun e w' => e = .returned (.tuple #[]) ∧ Bk w' B 193 (stirN k s).cells ∧ w.grownBy w' (some B) := by
  have HB := Lib.hid hB
  clear hB
  go_enter Try.func128, Try.ntmps128
  go_wp2
  go_loopw [5] (fun i wr => ∃ j : Nat, j ≤ k ∧ i = .int .i64 j ∧ Bk wr B 193 (stirN j s).cells ∧ w.grownBy wr (some B)) (fun i _ => k - (intOf i).toNat)
  case atStart => exact ⟨0, Nat.zero_le _, rfl, HB.out, only_none _ _⟩
  case round =>
    obtain ⟨j, hj, rfl, hB, hO⟩ := hrel
    clear HB
    by_cases hlt : j < k
    · have okr := stirN_ok ok j
      obtain ⟨r, hr⟩ : ∃ r, r = stirN j s := ⟨_, rfl⟩
      rw [← hr] at okr hB
      have HR := Lib.hid hr
      clear hr
      obtain ⟨⟨a0, a1⟩, ⟨b0, b1⟩, ⟨c0, c1⟩, ⟨d0, d1⟩⟩ := okr
      have k0 : wr.cell? ⟨B, 0, none⟩ = some (.int .u32 r.a) := hB.cell 0
      have k1 : wr.cell? ⟨B, 1, none⟩ = some (.int .u32 r.b) := hB.cell 1
      have k2 : wr.cell? ⟨B, 2, none⟩ = some (.int .u32 r.c) := hB.cell 2
      have k3 : wr.cell? ⟨B, 3, none⟩ = some (.int .u32 r.d) := hB.cell 3
      have f0 : wr.frozen? ⟨B, 0, none⟩ = false := hB.fr 0
      have f1 : wr.frozen? ⟨B, 1, none⟩ = false := hB.fr 1
      have f2 : wr.frozen? ⟨B, 2, none⟩ = false := hB.fr 2
      have f3 : wr.frozen? ⟨B, 3, none⟩ = false := hB.fr 3
      have HB := Lib.hid hB
      have HO := Lib.hid hO
      clear hB hO
      go_wp2
      go_still_tail 10, (by kernel_rfl)
      change wpList _ _ _ _ _ wr.drew
      go_wp2
      generalize hw : (wr.setCell ⟨B, 0, none⟩ (.int .u32 ((r.a + r.b) % 4294967296))).drew = w0
      have hO : Hid (w.grownBy w0 (some B)) := by rw [← hw]; exact Lib.hid (only_draw (only_put HO.out 0 (.int .u32 ((r.a + r.b) % 4294967296))))
      have hB : Hid (Bk w0 B 193 #[.int .u32 ((r.a + r.b) % 4294967296), .int .u32 r.b, .int .u32 r.c, .int .u32 r.d]) := by rw [← hw]; exact Lib.hid (HB.out.put 0 (.int .u32 ((r.a + r.b) % 4294967296))).draw
      clear hw k0 k1 k2 k3 f0 f1 f2 f3 HO HB
      obtain ⟨v0, hv0⟩ : ∃ v, v = addW r.a r.b := ⟨_, rfl⟩
      have hy0 := addW_w r.a r.b
      rw [show (r.a + r.b) % 4294967296 = v0 from hv0.symm] at hB
      rw [← hv0] at hy0
      have Hv0 := Lib.hid hv0
      clear hv0
      have pv0 := hy0.1
      have qv0 := hy0.2
      clear hy0
      have k0 : w0.cell? ⟨B, 0, none⟩ = some (.int .u32 v0) := hB.out.cell 0
      have k1 : w0.cell? ⟨B, 1, none⟩ = some (.int .u32 r.b) := hB.out.cell 1
      have k2 : w0.cell? ⟨B, 2, none⟩ = some (.int .u32 r.c) := hB.out.cell 2
      have k3 : w0.cell? ⟨B, 3, none⟩ = some (.int .u32 r.d) := hB.out.cell 3
      have f0 : w0.frozen? ⟨B, 0, none⟩ = false := hB.out.fr 0
      have f1 : w0.frozen? ⟨B, 1, none⟩ = false := hB.out.fr 1
      have f2 : w0.frozen? ⟨B, 2, none⟩ = false := hB.out.fr 2
      have f3 : w0.frozen? ⟨B, 3, none⟩ = false := hB.out.fr 3
      have HB := hB
      have HO := hO
      clear hB hO
      go_still_tail 12, (by kernel_rfl)
      have hx1 := xorW_w (x := r.d) (y := v0) ⟨by omega, by omega⟩ ⟨by omega, by omega⟩
      refine wpStill_step (fun K hK => ?_)
      go_simp
      refine ⟨_, flip_calls (rol16 _ hx1 _), hK _ ?_⟩
      clear hK K
      still_step
      refine wpStill_nil ?_
      have hy1 := rotN_w hx1 16
      obtain ⟨v1, hv1⟩ : ∃ v, v = rotN 16 (xorW r.d v0) := ⟨_, rfl⟩
      change wpList _ _ _ _ _ w0.drew
      rw [← hv1] at hy1 ⊢
      have Hv1 := Lib.hid hv1
      clear hv1 hx1
      have pv1 := hy1.1
      have qv1 := hy1.2
      clear hy1
      go_wp2
      generalize hw : (w0.setCell ⟨B, 3, none⟩ (.int .u32 v1)).drew = w1
      have hO : Hid (w.grownBy w1 (some B)) := by rw [← hw]; exact Lib.hid (only_draw (only_put HO.out 3 (.int .u32 v1)))
      have hB : Hid (Bk w1 B 193 #[.int .u32 v0, .int .u32 r.b, .int .u32 r.c, .int .u32 v1]) := by rw [← hw]; exact Lib.hid (HB.out.put 3 (.int .u32 v1)).draw
      clear hw k0 k1 k2 k3 f0 f1 f2 f3 HO HB
      have k0 : w1.cell? ⟨B, 0, none⟩ = some (.int .u32 v0) := hB.out.cell 0
      have k1 : w1.cell? ⟨B, 1, none⟩ = some (.int .u32 r.b) := hB.out.cell 1
      have k2 : w1.cell? ⟨B, 2, none⟩ = some (.int .u32 r.c) := hB.out.cell 2
      have k3 : w1.cell? ⟨B, 3, none⟩ = some (.int .u32 v1) := hB.out.cell 3
      have f0 : w1.frozen? ⟨B, 0, none⟩ = false := hB.out.fr 0
      have f1 : w1.frozen? ⟨B, 1, none⟩ = false := hB.out.fr 1
      have f2 : w1.frozen? ⟨B, 2, none⟩ = false := hB.out.fr 2
      have f3 : w1.frozen? ⟨B, 3, none⟩ = false := hB.out.fr 3
      have HB := hB
      have HO := hO
      clear hB hO
      go_still_tail 10, (by kernel_rfl)
      change wpList _ _ _ _ _ w1.drew
      go_wp2
      generalize hw : (w1.setCell ⟨B, 2, none⟩ (.int .u32 ((r.c + v1) % 4294967296))).drew = w2
      have hO : Hid (w.grownBy w2 (some B)) := by rw [← hw]; exact Lib.hid (only_draw (only_put HO.out 2 (.int .u32 ((r.c + v1) % 4294967296))))
      have hB : Hid (Bk w2 B 193 #[.int .u32 v0, .int .u32 r.b, .int .u32 ((r.c + v1) % 4294967296), .int .u32 v1]) := by rw [← hw]; exact Lib.hid (HB.out.put 2 (.int .u32 ((r.c + v1) % 4294967296))).draw
      clear hw k0 k1 k2 k3 f0 f1 f2 f3 HO HB
      obtain ⟨v2, hv2⟩ : ∃ v, v = addW r.c v1 := ⟨_, rfl⟩
      have hy2 := addW_w r.c v1
      rw [show (r.c + v1) % 4294967296 = v2 from hv2.symm] at hB
      rw [← hv2] at hy2
      have Hv2 := Lib.hid hv2
      clear hv2
      have pv2 := hy2.1
      have qv2 := hy2.2
      clear hy2
      have k0 : w2.cell? ⟨B, 0, none⟩ = some (.int .u32 v0) := hB.out.cell 0
      have k1 : w2.cell? ⟨B, 1, none⟩ = some (.int .u32 r.b) := hB.out.cell 1
      have k2 : w2.cell? ⟨B, 2, none⟩ = some (.int .u32 v2) := hB.out.cell 2
      have k3 : w2.cell? ⟨B, 3, none⟩ = some (.int .u32 v1) := hB.out.cell 3
      have f0 : w2.frozen? ⟨B, 0, none⟩ = false := hB.out.fr 0
      have f1 : w2.frozen? ⟨B, 1, none⟩ = false := hB.out.fr 1
      have f2 : w2.frozen? ⟨B, 2, none⟩ = false := hB.out.fr 2
      have f3 : w2.frozen? ⟨B, 3, none⟩ = false := hB.out.fr 3
      have HB := hB
      have HO := hO
      clear hB hO
      go_still_tail 12, (by kernel_rfl)
      have hx3 := xorW_w (x := r.b) (y := v2) ⟨by omega, by omega⟩ ⟨by omega, by omega⟩
      refine wpStill_step (fun K hK => ?_)
      go_simp
      refine ⟨_, flip_calls (rol12 _ hx3 _), hK _ ?_⟩
      clear hK K
      still_step
      refine wpStill_nil ?_
      have hy3 := rotN_w hx3 12
      obtain ⟨v3, hv3⟩ : ∃ v, v = rotN 12 (xorW r.b v2) := ⟨_, rfl⟩
      change wpList _ _ _ _ _ w2.drew
      rw [← hv3] at hy3 ⊢
      have Hv3 := Lib.hid hv3
      clear hv3 hx3
      have pv3 := hy3.1
      have qv3 := hy3.2
      clear hy3
      go_wp2
      generalize hw : (w2.setCell ⟨B, 1, none⟩ (.int .u32 v3)).drew = w3
      have hO : Hid (w.grownBy w3 (some B)) := by rw [← hw]; exact Lib.hid (only_draw (only_put HO.out 1 (.int .u32 v3)))
      have hB : Hid (Bk w3 B 193 #[.int .u32 v0, .int .u32 v3, .int .u32 v2, .int .u32 v1]) := by rw [← hw]; exact Lib.hid (HB.out.put 1 (.int .u32 v3)).draw
      clear hw k0 k1 k2 k3 f0 f1 f2 f3 HO HB
      have k0 : w3.cell? ⟨B, 0, none⟩ = some (.int .u32 v0) := hB.out.cell 0
      have k1 : w3.cell? ⟨B, 1, none⟩ = some (.int .u32 v3) := hB.out.cell 1
      have k2 : w3.cell? ⟨B, 2, none⟩ = some (.int .u32 v2) := hB.out.cell 2
      have k3 : w3.cell? ⟨B, 3, none⟩ = some (.int .u32 v1) := hB.out.cell 3
      have f0 : w3.frozen? ⟨B, 0, none⟩ = false := hB.out.fr 0
      have f1 : w3.frozen? ⟨B, 1, none⟩ = false := hB.out.fr 1
      have f2 : w3.frozen? ⟨B, 2, none⟩ = false := hB.out.fr 2
      have f3 : w3.frozen? ⟨B, 3, none⟩ = false := hB.out.fr 3
      have HB := hB
      have HO := hO
      clear hB hO
      go_still_tail 10, (by kernel_rfl)
      change wpList _ _ _ _ _ w3.drew
      go_wp2
      generalize hw : (w3.setCell ⟨B, 0, none⟩ (.int .u32 ((v0 + v3) % 4294967296))).drew = w4
      have hO : Hid (w.grownBy w4 (some B)) := by rw [← hw]; exact Lib.hid (only_draw (only_put HO.out 0 (.int .u32 ((v0 + v3) % 4294967296))))
      have hB : Hid (Bk w4 B 193 #[.int .u32 ((v0 + v3) % 4294967296), .int .u32 v3, .int .u32 v2, .int .u32 v1]) := by rw [← hw]; exact Lib.hid (HB.out.put 0 (.int .u32 ((v0 + v3) % 4294967296))).draw
      clear hw k0 k1 k2 k3 f0 f1 f2 f3 HO HB
      obtain ⟨v4, hv4⟩ : ∃ v, v = addW v0 v3 := ⟨_, rfl⟩
      have hy4 := addW_w v0 v3
      rw [show (v0 + v3) % 4294967296 = v4 from hv4.symm] at hB
      rw [← hv4] at hy4
      have Hv4 := Lib.hid hv4
      clear hv4
      have pv4 := hy4.1
      have qv4 := hy4.2
      clear hy4
      have k0 : w4.cell? ⟨B, 0, none⟩ = some (.int .u32 v4) := hB.out.cell 0
      have k1 : w4.cell? ⟨B, 1, none⟩ = some (.int .u32 v3) := hB.out.cell 1
      have k2 : w4.cell? ⟨B, 2, none⟩ = some (.int .u32 v2) := hB.out.cell 2
      have k3 : w4.cell? ⟨B, 3, none⟩ = some (.int .u32 v1) := hB.out.cell 3
      have f0 : w4.frozen? ⟨B, 0, none⟩ = false := hB.out.fr 0
      have f1 : w4.frozen? ⟨B, 1, none⟩ = false := hB.out.fr 1
      have f2 : w4.frozen? ⟨B, 2, none⟩ = false := hB.out.fr 2
      have f3 : w4.frozen? ⟨B, 3, none⟩ = false := hB.out.fr 3
      have HB := hB
      have HO := hO
      clear hB hO
      go_still_tail 12, (by kernel_rfl)
      have hx5 := xorW_w (x := v1) (y := v4) ⟨by omega, by omega⟩ ⟨by omega, by omega⟩
      refine wpStill_step (fun K hK => ?_)
      go_simp
      refine ⟨_, flip_calls (rol8 _ hx5 _), hK _ ?_⟩
      clear hK K
      still_step
      refine wpStill_nil ?_
      have hy5 := rotN_w hx5 8
      obtain ⟨v5, hv5⟩ : ∃ v, v = rotN 8 (xorW v1 v4) := ⟨_, rfl⟩
      change wpList _ _ _ _ _ w4.drew
      rw [← hv5] at hy5 ⊢
      have Hv5 := Lib.hid hv5
      clear hv5 hx5
      have pv5 := hy5.1
      have qv5 := hy5.2
      clear hy5
      go_wp2
      generalize hw : (w4.setCell ⟨B, 3, none⟩ (.int .u32 v5)).drew = w5
      have hO : Hid (w.grownBy w5 (some B)) := by rw [← hw]; exact Lib.hid (only_draw (only_put HO.out 3 (.int .u32 v5)))
      have hB : Hid (Bk w5 B 193 #[.int .u32 v4, .int .u32 v3, .int .u32 v2, .int .u32 v5]) := by rw [← hw]; exact Lib.hid (HB.out.put 3 (.int .u32 v5)).draw
      clear hw k0 k1 k2 k3 f0 f1 f2 f3 HO HB
      have k0 : w5.cell? ⟨B, 0, none⟩ = some (.int .u32 v4) := hB.out.cell 0
      have k1 : w5.cell? ⟨B, 1, none⟩ = some (.int .u32 v3) := hB.out.cell 1
      have k2 : w5.cell? ⟨B, 2, none⟩ = some (.int .u32 v2) := hB.out.cell 2
      have k3 : w5.cell? ⟨B, 3, none⟩ = some (.int .u32 v5) := hB.out.cell 3
      have f0 : w5.frozen? ⟨B, 0, none⟩ = false := hB.out.fr 0
      have f1 : w5.frozen? ⟨B, 1, none⟩ = false := hB.out.fr 1
      have f2 : w5.frozen? ⟨B, 2, none⟩ = false := hB.out.fr 2
      have f3 : w5.frozen? ⟨B, 3, none⟩ = false := hB.out.fr 3
      have HB := hB
      have HO := hO
      clear hB hO
      go_still_tail 10, (by kernel_rfl)
      change wpList _ _ _ _ _ w5.drew
      go_wp2
      generalize hw : (w5.setCell ⟨B, 2, none⟩ (.int .u32 ((v2 + v5) % 4294967296))).drew = w6
      have hO : Hid (w.grownBy w6 (some B)) := by rw [← hw]; exact Lib.hid (only_draw (only_put HO.out 2 (.int .u32 ((v2 + v5) % 4294967296))))
      have hB : Hid (Bk w6 B 193 #[.int .u32 v4, .int .u32 v3, .int .u32 ((v2 + v5) % 4294967296), .int .u32 v5]) := by rw [← hw]; exact Lib.hid (HB.out.put 2 (.int .u32 ((v2 + v5) % 4294967296))).draw
      clear hw k0 k1 k2 k3 f0 f1 f2 f3 HO HB
      obtain ⟨v6, hv6⟩ : ∃ v, v = addW v2 v5 := ⟨_, rfl⟩
      have hy6 := addW_w v2 v5
      rw [show (v2 + v5) % 4294967296 = v6 from hv6.symm] at hB
      rw [← hv6] at hy6
      have Hv6 := Lib.hid hv6
      clear hv6
      have pv6 := hy6.1
      have qv6 := hy6.2
      clear hy6
      have k0 : w6.cell? ⟨B, 0, none⟩ = some (.int .u32 v4) := hB.out.cell 0
      have k1 : w6.cell? ⟨B, 1, none⟩ = some (.int .u32 v3) := hB.out.cell 1
      have k2 : w6.cell? ⟨B, 2, none⟩ = some (.int .u32 v6) := hB.out.cell 2
      have k3 : w6.cell? ⟨B, 3, none⟩ = some (.int .u32 v5) := hB.out.cell 3
      have f0 : w6.frozen? ⟨B, 0, none⟩ = false := hB.out.fr 0
      have f1 : w6.frozen? ⟨B, 1, none⟩ = false := hB.out.fr 1
      have f2 : w6.frozen? ⟨B, 2, none⟩ = false := hB.out.fr 2
      have f3 : w6.frozen? ⟨B, 3, none⟩ = false := hB.out.fr 3
      have HB := hB
      have HO := hO
      clear hB hO
      go_still_tail 12, (by kernel_rfl)
      have hx7 := xorW_w (x := v3) (y := v6) ⟨by omega, by omega⟩ ⟨by omega, by omega⟩
      refine wpStill_step (fun K hK => ?_)
      go_simp
      refine ⟨_, flip_calls (rol7 _ hx7 _), hK _ ?_⟩
      clear hK K
      still_step
      refine wpStill_nil ?_
      have hy7 := rotN_w hx7 7
      obtain ⟨v7, hv7⟩ : ∃ v, v = rotN 7 (xorW v3 v6) := ⟨_, rfl⟩
      change wpList _ _ _ _ _ w6.drew
      rw [← hv7] at hy7 ⊢
      have Hv7 := Lib.hid hv7
      clear hv7 hx7
      have pv7 := hy7.1
      have qv7 := hy7.2
      clear hy7
      go_wp2
      generalize hw : (w6.setCell ⟨B, 1, none⟩ (.int .u32 v7)).drew = w7
      have hO : Hid (w.grownBy w7 (some B)) := by rw [← hw]; exact Lib.hid (only_draw (only_put HO.out 1 (.int .u32 v7)))
      have hB : Hid (Bk w7 B 193 #[.int .u32 v4, .int .u32 v7, .int .u32 v6, .int .u32 v5]) := by rw [← hw]; exact Lib.hid (HB.out.put 1 (.int .u32 v7)).draw
      clear hw k0 k1 k2 k3 f0 f1 f2 f3 HO HB
      have k0 : w7.cell? ⟨B, 0, none⟩ = some (.int .u32 v4) := hB.out.cell 0
      have k1 : w7.cell? ⟨B, 1, none⟩ = some (.int .u32 v7) := hB.out.cell 1
      have k2 : w7.cell? ⟨B, 2, none⟩ = some (.int .u32 v6) := hB.out.cell 2
      have k3 : w7.cell? ⟨B, 3, none⟩ = some (.int .u32 v5) := hB.out.cell 3
      have f0 : w7.frozen? ⟨B, 0, none⟩ = false := hB.out.fr 0
      have f1 : w7.frozen? ⟨B, 1, none⟩ = false := hB.out.fr 1
      have f2 : w7.frozen? ⟨B, 2, none⟩ = false := hB.out.fr 2
      have f3 : w7.frozen? ⟨B, 3, none⟩ = false := hB.out.fr 3
      have HB := hB
      have HO := hO
      clear hB hO
      go_roundw
      case rel =>
        have e0 := Hv0.out
        have e1 := Hv1.out
        have e2 := Hv2.out
        have e3 := Hv3.out
        have e4 := Hv4.out
        have e5 := Hv5.out
        have e6 := Hv6.out
        have e7 := Hv7.out
        have hc : (stir1 r).cells = #[.int .u32 v4, .int .u32 v7, .int .u32 v6, .int .u32 v5] := by
          subst e0; subst e1; subst e2; subst e3; subst e4; subst e5; subst e6; subst e7; rfl
        have hn : stir1 r = stirN (j + 1) s := by rw [HR.out]; rfl
        exact ⟨j + 1, by omega, by go_num, by rw [← hn, hc]; exact HB.out, HO.out⟩
      case measure => simp [intOf]; omega
    · obtain rfl : j = k := by omega
      have HB := Lib.hid hB
      have HO := Lib.hid hO
      clear hB hO
      go_wp2
      go_end0
      exact ⟨rfl, HB.out, HO.out⟩
end Go.Proofs.Ytmjfnpmnhehnkaa.Sm
