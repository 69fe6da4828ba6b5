/- SmC, SmD, SmE, SmF -/
import Derived.Test.YtmjfnpmnhehnkaaQak
import Derived.Deep.RegionWith
import Derived.Deep.RegionHeld3
import Derived.BigRegion
set_option maxRecDepth 100000
set_option maxHeartbeats 16000000
namespace Go.Proofs.Ytmjfnpmnhehnkaa.Sm
open Go.RowKit
structure Wd where
  a : Int
  b : Int
  c : Int
  d : Int
def Wd.cells (s : Wd) : Array Value := #[.int .u32 s.a, .int .u32 s.b, .int .u32 s.c, .int .u32 s.d]
structure Wd.Ok (s : Wd) : Prop where
  a : isW s.a
  b : isW s.b
  c : isW s.c
  d : isW s.d
def addW (x y : Int) : Int := (x + y) % 4294967296
def xorW (x y : Int) : Int := bits .xor .u32 x y
theorem addW_w (x y : Int) : isW (addW x y) := by unfold addW isW; omega
theorem xorW_w {x y : Int} (hx : isW x) (hy : isW y) : isW (xorW x y) := by
  unfold xorW
  rw [u32_xor x y hx.1 hx.2 hy.1 hy.2]
  have h := Nat.xor_lt_two_pow (n := 32) (x := x.toNat) (y := y.toNat) (by unfold isW at hx; omega) (by unfold isW at hy; omega)
  unfold isW; omega
def stir1 (s : Wd) : Wd :=
  ⟨addW (addW s.a s.b) (rotN 12 (xorW s.b (addW s.c (rotN 16 (xorW s.d (addW s.a s.b)))))),
   rotN 7 (xorW (rotN 12 (xorW s.b (addW s.c (rotN 16 (xorW s.d (addW s.a s.b)))))) (addW (addW s.c (rotN 16 (xorW s.d (addW s.a s.b)))) (rotN 8 (xorW (rotN 16 (xorW s.d (addW s.a s.b))) (addW (addW s.a s.b) (rotN 12 (xorW s.b (addW s.c (rotN 16 (xorW s.d (addW s.a s.b))))))))))),
   addW (addW s.c (rotN 16 (xorW s.d (addW s.a s.b)))) (rotN 8 (xorW (rotN 16 (xorW s.d (addW s.a s.b))) (addW (addW s.a s.b) (rotN 12 (xorW s.b (addW s.c (rotN 16 (xorW s.d (addW s.a s.b))))))))),
   rotN 8 (xorW (rotN 16 (xorW s.d (addW s.a s.b))) (addW (addW s.a s.b) (rotN 12 (xorW s.b (addW s.c (rotN 16 (xorW s.d (addW s.a s.b))))))))⟩
theorem stir1_ok {s : Wd} (h : s.Ok) : (stir1 s).Ok := by
  have h1 := addW_w s.a s.b
  have h2 := rotN_w (xorW_w h.d h1) 16
  have h3 := addW_w s.c (rotN 16 (xorW s.d (addW s.a s.b)))
  have h4 := rotN_w (xorW_w h.b h3) 12
  have h5 := addW_w (addW s.a s.b) (rotN 12 (xorW s.b (addW s.c (rotN 16 (xorW s.d (addW s.a s.b))))))
  have h6 := rotN_w (xorW_w h2 h5) 8
  have h7 := addW_w (addW s.c (rotN 16 (xorW s.d (addW s.a s.b)))) (rotN 8 (xorW (rotN 16 (xorW s.d (addW s.a s.b))) (addW (addW s.a s.b) (rotN 12 (xorW s.b (addW s.c (rotN 16 (xorW s.d (addW s.a s.b)))))))))
  have h8 := rotN_w (xorW_w h4 h7) 7
  exact ⟨h5, h8, h7, h6⟩
def Bk (w : World) (B : Nat) (t : TypeId) (cs : Array Value) : Prop := w.heap[B]? = some (.cells cs t (0, 0))
theorem Bk.put {w : World} {B : Nat} {t : TypeId} {cs : Array Value} (h : Bk w B t cs) (i : Nat) (v : Value) : Bk (w.setCell ⟨B, i, none⟩ v) B t (cs.setIfInBounds i v) := by
  unfold Bk at *; simp [World.setCell, Array.getElem?_modify, h]
theorem Bk.draw {w : World} {B : Nat} {t : TypeId} {cs : Array Value} (h : Bk w B t cs) : Bk w.drew B t cs := h
theorem Bk.cell {w : World} {B : Nat} {t : TypeId} {cs : Array Value} (h : Bk w B t cs) (i : Nat) : w.cell? ⟨B, i, none⟩ = cs[i]? := by
  unfold Bk at h; simp [World.cell?, h]
theorem Bk.fr {w : World} {B : Nat} {t : TypeId} {cs : Array Value} (h : Bk w B t cs) (i : Nat) : w.frozen? ⟨B, i, none⟩ = false := by
  unfold Bk at h; simp [World.frozen?, h]
theorem only_put {a w : World} {g : Nat} (h : a.grownBy w (some g)) (i : Nat) (u : Value) : a.grownBy (w.setCell ⟨g, i, none⟩ u) (some g) :=
  ⟨h.os, h.tape, h.output, by simpa [World.setCell] using h.size, fun k hk hne => (Below.heap_setCell w ⟨g, i, none⟩ u k (by rintro rfl; exact hne rfl)).trans (h.block k hk hne)⟩
theorem only_draw {a w : World} {row : Option Nat} (h : a.grownBy w row) : a.grownBy w.drew row := ⟨h.os, h.tape, h.output, h.size, h.block⟩
theorem only_none (w : World) (row : Option Nat) : w.grownBy w row := ⟨rfl, rfl, rfl, Nat.le_refl _, fun _ _ _ => rfl⟩
theorem flip_calls {P : Program} {f : FuncId} {args : Array Value} {w : World} {v : Value} (h : Calls P f args w fun e w' => e = .returned v ∧ w = w') : Calls P f args w fun e w'' => e = .returned v ∧ w'' = w :=
  h.mono fun _ _ ⟨he, hw⟩ => ⟨he, hw.symm⟩
theorem turn16 (x : Int) (h : isW x) (w : World) : Calls Try.prog 136 #[.int .u32 x, .int .i64 16] w fun e w' => e = .returned (.int .u32 (rotN 16 x)) ∧ w = w' := turn_any x h 16 (by omega) w
theorem turn12 (x : Int) (h : isW x) (w : World) : Calls Try.prog 136 #[.int .u32 x, .int .i64 12] w fun e w' => e = .returned (.int .u32 (rotN 12 x)) ∧ w = w' := turn_any x h 12 (by omega) w
theorem turn8 (x : Int) (h : isW x) (w : World) : Calls Try.prog 136 #[.int .u32 x, .int .i64 8] w fun e w' => e = .returned (.int .u32 (rotN 8 x)) ∧ w = w' := turn_any x h 8 (by omega) w
theorem turn7 (x : Int) (h : isW x) (w : World) : Calls Try.prog 136 #[.int .u32 x, .int .i64 7] w fun e w' => e = .returned (.int .u32 (rotN 7 x)) ∧ w = w' := turn_any x h 7 (by omega) w
theorem rstir_any (s : Wd) (ok : s.Ok) (B : Nat) (w : World) (hB : Bk w B 179 s.cells) :
    Calls Try.prog 108 #[.slice (some ⟨B, 0, none⟩) 4 4] w fun e w' => e = .returned (.tuple #[]) ∧ Bk w' B 179 (stir1 s).cells ∧ w.grownBy w' (some B) := by
  obtain ⟨⟨a0, a1⟩, ⟨b0, b1⟩, ⟨c0, c1⟩, ⟨d0, d1⟩⟩ := ok
  have k0 : w.cell? ⟨B, 0, none⟩ = some (.int .u32 s.a) := hB.cell 0
  have k1 : w.cell? ⟨B, 1, none⟩ = some (.int .u32 s.b) := hB.cell 1
  have k2 : w.cell? ⟨B, 2, none⟩ = some (.int .u32 s.c) := hB.cell 2
  have k3 : w.cell? ⟨B, 3, none⟩ = some (.int .u32 s.d) := hB.cell 3
  have f0 : w.frozen? ⟨B, 0, none⟩ = false := hB.fr 0
  have f1 : w.frozen? ⟨B, 1, none⟩ = false := hB.fr 1
  have f2 : w.frozen? ⟨B, 2, none⟩ = false := hB.fr 2
  have f3 : w.frozen? ⟨B, 3, none⟩ = false := hB.fr 3
  have HB := Lib.hid hB
  have HO := Lib.hid (only_none w (some B))
  clear hB
  go_enter Try.func108, Try.ntmps108
  go_wp2
  go_still_tail 8, (by kernel_rfl)
  change wpList _ _ _ _ _ w.drew
  go_wp2
  generalize hw : (w.setCell ⟨B, 0, none⟩ (.int .u32 ((s.a + s.b) % 4294967296))).drew = w0
  have hO : Hid (w.grownBy w0 (some B)) := by rw [← hw]; exact Lib.hid (only_draw (only_put HO.out 0 (.int .u32 ((s.a + s.b) % 4294967296))))
  have hB : Hid (Bk w0 B 179 #[.int .u32 ((s.a + s.b) % 4294967296), .int .u32 s.b, .int .u32 s.c, .int .u32 s.d]) := by rw [← hw]; exact Lib.hid (HB.out.put 0 (.int .u32 ((s.a + s.b) % 4294967296))).draw
  clear hw k0 k1 k2 k3 f0 f1 f2 f3 HO HB
  obtain ⟨v0, hv0⟩ : ∃ v, v = addW s.a s.b := ⟨_, rfl⟩
  have hy0 := addW_w s.a s.b
  rw [show (s.a + s.b) % 4294967296 = v0 from hv0.symm] at hB
  rw [← hv0] at hy0
  have Hv0 := Lib.hid hv0
  clear hv0
  have pv0 := hy0.1
  have qv0 := hy0.2
  clear hy0
  have k0 : w0.cell? ⟨B, 0, none⟩ = some (.int .u32 v0) := hB.out.cell 0
  have k1 : w0.cell? ⟨B, 1, none⟩ = some (.int .u32 s.b) := hB.out.cell 1
  have k2 : w0.cell? ⟨B, 2, none⟩ = some (.int .u32 s.c) := hB.out.cell 2
  have k3 : w0.cell? ⟨B, 3, none⟩ = some (.int .u32 s.d) := hB.out.cell 3
  have f0 : w0.frozen? ⟨B, 0, none⟩ = false := hB.out.fr 0
  have f1 : w0.frozen? ⟨B, 1, none⟩ = false := hB.out.fr 1
  have f2 : w0.frozen? ⟨B, 2, none⟩ = false := hB.out.fr 2
  have f3 : w0.frozen? ⟨B, 3, none⟩ = false := hB.out.fr 3
  have HB := hB
  have HO := hO
  clear hB hO
  go_still_tail 9, (by kernel_rfl)
  have hx1 := xorW_w (x := s.d) (y := v0) ⟨by omega, by omega⟩ ⟨by omega, by omega⟩
  refine wpStill_step (fun K hK => ?_)
  go_simp
  refine ⟨_, flip_calls (turn16 _ hx1 _), hK _ ?_⟩
  clear hK K
  refine wpStill_nil ?_
  have hy1 := rotN_w hx1 16
  obtain ⟨v1, hv1⟩ : ∃ v, v = rotN 16 (xorW s.d v0) := ⟨_, rfl⟩
  change wpList _ _ _ _ _ w0.drew
  rw [← hv1] at hy1 ⊢
  have Hv1 := Lib.hid hv1
  clear hv1 hx1
  have pv1 := hy1.1
  have qv1 := hy1.2
  clear hy1
  go_wp2
  generalize hw : (w0.setCell ⟨B, 3, none⟩ (.int .u32 v1)).drew = w1
  have hO : Hid (w.grownBy w1 (some B)) := by rw [← hw]; exact Lib.hid (only_draw (only_put HO.out 3 (.int .u32 v1)))
  have hB : Hid (Bk w1 B 179 #[.int .u32 v0, .int .u32 s.b, .int .u32 s.c, .int .u32 v1]) := by rw [← hw]; exact Lib.hid (HB.out.put 3 (.int .u32 v1)).draw
  clear hw k0 k1 k2 k3 f0 f1 f2 f3 HO HB
  have k0 : w1.cell? ⟨B, 0, none⟩ = some (.int .u32 v0) := hB.out.cell 0
  have k1 : w1.cell? ⟨B, 1, none⟩ = some (.int .u32 s.b) := hB.out.cell 1
  have k2 : w1.cell? ⟨B, 2, none⟩ = some (.int .u32 s.c) := hB.out.cell 2
  have k3 : w1.cell? ⟨B, 3, none⟩ = some (.int .u32 v1) := hB.out.cell 3
  have f0 : w1.frozen? ⟨B, 0, none⟩ = false := hB.out.fr 0
  have f1 : w1.frozen? ⟨B, 1, none⟩ = false := hB.out.fr 1
  have f2 : w1.frozen? ⟨B, 2, none⟩ = false := hB.out.fr 2
  have f3 : w1.frozen? ⟨B, 3, none⟩ = false := hB.out.fr 3
  have HB := hB
  have HO := hO
  clear hB hO
  go_still_tail 8, (by kernel_rfl)
  change wpList _ _ _ _ _ w1.drew
  go_wp2
  generalize hw : (w1.setCell ⟨B, 2, none⟩ (.int .u32 ((s.c + v1) % 4294967296))).drew = w2
  have hO : Hid (w.grownBy w2 (some B)) := by rw [← hw]; exact Lib.hid (only_draw (only_put HO.out 2 (.int .u32 ((s.c + v1) % 4294967296))))
  have hB : Hid (Bk w2 B 179 #[.int .u32 v0, .int .u32 s.b, .int .u32 ((s.c + v1) % 4294967296), .int .u32 v1]) := by rw [← hw]; exact Lib.hid (HB.out.put 2 (.int .u32 ((s.c + v1) % 4294967296))).draw
  clear hw k0 k1 k2 k3 f0 f1 f2 f3 HO HB
  obtain ⟨v2, hv2⟩ : ∃ v, v = addW s.c v1 := ⟨_, rfl⟩
  have hy2 := addW_w s.c v1
  rw [show (s.c + v1) % 4294967296 = v2 from hv2.symm] at hB
  rw [← hv2] at hy2
  have Hv2 := Lib.hid hv2
  clear hv2
  have pv2 := hy2.1
  have qv2 := hy2.2
  clear hy2
  have k0 : w2.cell? ⟨B, 0, none⟩ = some (.int .u32 v0) := hB.out.cell 0
  have k1 : w2.cell? ⟨B, 1, none⟩ = some (.int .u32 s.b) := hB.out.cell 1
  have k2 : w2.cell? ⟨B, 2, none⟩ = some (.int .u32 v2) := hB.out.cell 2
  have k3 : w2.cell? ⟨B, 3, none⟩ = some (.int .u32 v1) := hB.out.cell 3
  have f0 : w2.frozen? ⟨B, 0, none⟩ = false := hB.out.fr 0
  have f1 : w2.frozen? ⟨B, 1, none⟩ = false := hB.out.fr 1
  have f2 : w2.frozen? ⟨B, 2, none⟩ = false := hB.out.fr 2
  have f3 : w2.frozen? ⟨B, 3, none⟩ = false := hB.out.fr 3
  have HB := hB
  have HO := hO
  clear hB hO
  go_still_tail 9, (by kernel_rfl)
  have hx3 := xorW_w (x := s.b) (y := v2) ⟨by omega, by omega⟩ ⟨by omega, by omega⟩
  refine wpStill_step (fun K hK => ?_)
  go_simp
  refine ⟨_, flip_calls (turn12 _ hx3 _), hK _ ?_⟩
  clear hK K
  refine wpStill_nil ?_
  have hy3 := rotN_w hx3 12
  obtain ⟨v3, hv3⟩ : ∃ v, v = rotN 12 (xorW s.b v2) := ⟨_, rfl⟩
  change wpList _ _ _ _ _ w2.drew
  rw [← hv3] at hy3 ⊢
  have Hv3 := Lib.hid hv3
  clear hv3 hx3
  have pv3 := hy3.1
  have qv3 := hy3.2
  clear hy3
  go_wp2
  generalize hw : (w2.setCell ⟨B, 1, none⟩ (.int .u32 v3)).drew = w3
  have hO : Hid (w.grownBy w3 (some B)) := by rw [← hw]; exact Lib.hid (only_draw (only_put HO.out 1 (.int .u32 v3)))
  have hB : Hid (Bk w3 B 179 #[.int .u32 v0, .int .u32 v3, .int .u32 v2, .int .u32 v1]) := by rw [← hw]; exact Lib.hid (HB.out.put 1 (.int .u32 v3)).draw
  clear hw k0 k1 k2 k3 f0 f1 f2 f3 HO HB
  have k0 : w3.cell? ⟨B, 0, none⟩ = some (.int .u32 v0) := hB.out.cell 0
  have k1 : w3.cell? ⟨B, 1, none⟩ = some (.int .u32 v3) := hB.out.cell 1
  have k2 : w3.cell? ⟨B, 2, none⟩ = some (.int .u32 v2) := hB.out.cell 2
  have k3 : w3.cell? ⟨B, 3, none⟩ = some (.int .u32 v1) := hB.out.cell 3
  have f0 : w3.frozen? ⟨B, 0, none⟩ = false := hB.out.fr 0
  have f1 : w3.frozen? ⟨B, 1, none⟩ = false := hB.out.fr 1
  have f2 : w3.frozen? ⟨B, 2, none⟩ = false := hB.out.fr 2
  have f3 : w3.frozen? ⟨B, 3, none⟩ = false := hB.out.fr 3
  have HB := hB
  have HO := hO
  clear hB hO
  go_still_tail 8, (by kernel_rfl)
  change wpList _ _ _ _ _ w3.drew
  go_wp2
  generalize hw : (w3.setCell ⟨B, 0, none⟩ (.int .u32 ((v0 + v3) % 4294967296))).drew = w4
  have hO : Hid (w.grownBy w4 (some B)) := by rw [← hw]; exact Lib.hid (only_draw (only_put HO.out 0 (.int .u32 ((v0 + v3) % 4294967296))))
  have hB : Hid (Bk w4 B 179 #[.int .u32 ((v0 + v3) % 4294967296), .int .u32 v3, .int .u32 v2, .int .u32 v1]) := by rw [← hw]; exact Lib.hid (HB.out.put 0 (.int .u32 ((v0 + v3) % 4294967296))).draw
  clear hw k0 k1 k2 k3 f0 f1 f2 f3 HO HB
  obtain ⟨v4, hv4⟩ : ∃ v, v = addW v0 v3 := ⟨_, rfl⟩
  have hy4 := addW_w v0 v3
  rw [show (v0 + v3) % 4294967296 = v4 from hv4.symm] at hB
  rw [← hv4] at hy4
  have Hv4 := Lib.hid hv4
  clear hv4
  have pv4 := hy4.1
  have qv4 := hy4.2
  clear hy4
  have k0 : w4.cell? ⟨B, 0, none⟩ = some (.int .u32 v4) := hB.out.cell 0
  have k1 : w4.cell? ⟨B, 1, none⟩ = some (.int .u32 v3) := hB.out.cell 1
  have k2 : w4.cell? ⟨B, 2, none⟩ = some (.int .u32 v2) := hB.out.cell 2
  have k3 : w4.cell? ⟨B, 3, none⟩ = some (.int .u32 v1) := hB.out.cell 3
  have f0 : w4.frozen? ⟨B, 0, none⟩ = false := hB.out.fr 0
  have f1 : w4.frozen? ⟨B, 1, none⟩ = false := hB.out.fr 1
  have f2 : w4.frozen? ⟨B, 2, none⟩ = false := hB.out.fr 2
  have f3 : w4.frozen? ⟨B, 3, none⟩ = false := hB.out.fr 3
  have HB := hB
  have HO := hO
  clear hB hO
  go_still_tail 9, (by kernel_rfl)
  have hx5 := xorW_w (x := v1) (y := v4) ⟨by omega, by omega⟩ ⟨by omega, by omega⟩
  refine wpStill_step (fun K hK => ?_)
  go_simp
  refine ⟨_, flip_calls (turn8 _ hx5 _), hK _ ?_⟩
  clear hK K
  refine wpStill_nil ?_
  have hy5 := rotN_w hx5 8
  obtain ⟨v5, hv5⟩ : ∃ v, v = rotN 8 (xorW v1 v4) := ⟨_, rfl⟩
  change wpList _ _ _ _ _ w4.drew
  rw [← hv5] at hy5 ⊢
  have Hv5 := Lib.hid hv5
  clear hv5 hx5
  have pv5 := hy5.1
  have qv5 := hy5.2
  clear hy5
  go_wp2
  generalize hw : (w4.setCell ⟨B, 3, none⟩ (.int .u32 v5)).drew = w5
  have hO : Hid (w.grownBy w5 (some B)) := by rw [← hw]; exact Lib.hid (only_draw (only_put HO.out 3 (.int .u32 v5)))
  have hB : Hid (Bk w5 B 179 #[.int .u32 v4, .int .u32 v3, .int .u32 v2, .int .u32 v5]) := by rw [← hw]; exact Lib.hid (HB.out.put 3 (.int .u32 v5)).draw
  clear hw k0 k1 k2 k3 f0 f1 f2 f3 HO HB
  have k0 : w5.cell? ⟨B, 0, none⟩ = some (.int .u32 v4) := hB.out.cell 0
  have k1 : w5.cell? ⟨B, 1, none⟩ = some (.int .u32 v3) := hB.out.cell 1
  have k2 : w5.cell? ⟨B, 2, none⟩ = some (.int .u32 v2) := hB.out.cell 2
  have k3 : w5.cell? ⟨B, 3, none⟩ = some (.int .u32 v5) := hB.out.cell 3
  have f0 : w5.frozen? ⟨B, 0, none⟩ = false := hB.out.fr 0
  have f1 : w5.frozen? ⟨B, 1, none⟩ = false := hB.out.fr 1
  have f2 : w5.frozen? ⟨B, 2, none⟩ = false := hB.out.fr 2
  have f3 : w5.frozen? ⟨B, 3, none⟩ = false := hB.out.fr 3
  have HB := hB
  have HO := hO
  clear hB hO
  go_still_tail 8, (by kernel_rfl)
  change wpList _ _ _ _ _ w5.drew
  go_wp2
  generalize hw : (w5.setCell ⟨B, 2, none⟩ (.int .u32 ((v2 + v5) % 4294967296))).drew = w6
  have hO : Hid (w.grownBy w6 (some B)) := by rw [← hw]; exact Lib.hid (only_draw (only_put HO.out 2 (.int .u32 ((v2 + v5) % 4294967296))))
  have hB : Hid (Bk w6 B 179 #[.int .u32 v4, .int .u32 v3, .int .u32 ((v2 + v5) % 4294967296), .int .u32 v5]) := by rw [← hw]; exact Lib.hid (HB.out.put 2 (.int .u32 ((v2 + v5) % 4294967296))).draw
  clear hw k0 k1 k2 k3 f0 f1 f2 f3 HO HB
  obtain ⟨v6, hv6⟩ : ∃ v, v = addW v2 v5 := ⟨_, rfl⟩
  have hy6 := addW_w v2 v5
  rw [show (v2 + v5) % 4294967296 = v6 from hv6.symm] at hB
  rw [← hv6] at hy6
  have Hv6 := Lib.hid hv6
  clear hv6
  have pv6 := hy6.1
  have qv6 := hy6.2
  clear hy6
  have k0 : w6.cell? ⟨B, 0, none⟩ = some (.int .u32 v4) := hB.out.cell 0
  have k1 : w6.cell? ⟨B, 1, none⟩ = some (.int .u32 v3) := hB.out.cell 1
  have k2 : w6.cell? ⟨B, 2, none⟩ = some (.int .u32 v6) := hB.out.cell 2
  have k3 : w6.cell? ⟨B, 3, none⟩ = some (.int .u32 v5) := hB.out.cell 3
  have f0 : w6.frozen? ⟨B, 0, none⟩ = false := hB.out.fr 0
  have f1 : w6.frozen? ⟨B, 1, none⟩ = false := hB.out.fr 1
  have f2 : w6.frozen? ⟨B, 2, none⟩ = false := hB.out.fr 2
  have f3 : w6.frozen? ⟨B, 3, none⟩ = false := hB.out.fr 3
  have HB := hB
  have HO := hO
  clear hB hO
  go_still_tail 9, (by kernel_rfl)
  have hx7 := xorW_w (x := v3) (y := v6) ⟨by omega, by omega⟩ ⟨by omega, by omega⟩
  refine wpStill_step (fun K hK => ?_)
  go_simp
  refine ⟨_, flip_calls (turn7 _ hx7 _), hK _ ?_⟩
  clear hK K
  refine wpStill_nil ?_
  have hy7 := rotN_w hx7 7
  obtain ⟨v7, hv7⟩ : ∃ v, v = rotN 7 (xorW v3 v6) := ⟨_, rfl⟩
  change wpList _ _ _ _ _ w6.drew
  rw [← hv7] at hy7 ⊢
  have Hv7 := Lib.hid hv7
  clear hv7 hx7
  have pv7 := hy7.1
  have qv7 := hy7.2
  clear hy7
  go_wp2
  generalize hw : (w6.setCell ⟨B, 1, none⟩ (.int .u32 v7)).drew = w7
  have hO : Hid (w.grownBy w7 (some B)) := by rw [← hw]; exact Lib.hid (only_draw (only_put HO.out 1 (.int .u32 v7)))
  have hB : Hid (Bk w7 B 179 #[.int .u32 v4, .int .u32 v7, .int .u32 v6, .int .u32 v5]) := by rw [← hw]; exact Lib.hid (HB.out.put 1 (.int .u32 v7)).draw
  clear hw k0 k1 k2 k3 f0 f1 f2 f3 HO HB
  have k0 : w7.cell? ⟨B, 0, none⟩ = some (.int .u32 v4) := hB.out.cell 0
  have k1 : w7.cell? ⟨B, 1, none⟩ = some (.int .u32 v7) := hB.out.cell 1
  have k2 : w7.cell? ⟨B, 2, none⟩ = some (.int .u32 v6) := hB.out.cell 2
  have k3 : w7.cell? ⟨B, 3, none⟩ = some (.int .u32 v5) := hB.out.cell 3
  have f0 : w7.frozen? ⟨B, 0, none⟩ = false := hB.out.fr 0
  have f1 : w7.frozen? ⟨B, 1, none⟩ = false := hB.out.fr 1
  have f2 : w7.frozen? ⟨B, 2, none⟩ = false := hB.out.fr 2
  have f3 : w7.frozen? ⟨B, 3, none⟩ = false := hB.out.fr 3
  have HB := hB
  have HO := hO
  clear hB hO
  go_end0
  have e0 := Hv0.out
  have e1 := Hv1.out
  have e2 := Hv2.out
  have e3 := Hv3.out
  have e4 := Hv4.out
  have e5 := Hv5.out
  have e6 := Hv6.out
  have e7 := Hv7.out
  refine ⟨rfl, ?_, HO.out⟩
  have h := HB.out
  have hc : (stir1 s).cells = #[.int .u32 v4, .int .u32 v7, .int .u32 v6, .int .u32 v5] := by
    subst e0; subst e1; subst e2; subst e3; subst e4; subst e5; subst e6; subst e7; rfl
  rw [hc]; exact h
end Go.Proofs.Ytmjfnpmnhehnkaa.Sm
namespace Go.Proofs.Ytmjfnpmnhehnkaa.Sm
open Go.RowKit
def stirN : Nat → Wd → Wd
 | 0, s => s
 | k + 1, s => stir1 (stirN k s)
theorem stirN_ok {s : Wd} (h : s.Ok) : ∀ k, (stirN k s).Ok
 | 0 => h
 | k + 1 => stir1_ok (stirN_ok h k)
theorem stir_any (s : Wd) (ok : s.Ok) (B k : Nat) (hk : k ≤ 100) (w : World) (hB : Bk w B 193 s.cells) :
  Calls Try.prog 128 #[.pointer (some ⟨B, 0, none⟩), .int .i64 k] w fun e w' => e = .returned (.tuple #[]) ∧ Bk w' B 193 (stirN k s).cells ∧ w.grownBy w' (some B) := by
 have HB := Lib.hid hB
 clear hB
 go_enter Try.func128, Try.ntmps128
 go_wp2
 go_loopw [5] (fun i wr => ∃ j : Nat, j ≤ k ∧ i = .int .i64 j ∧ Bk wr B 193 (stirN j s).cells ∧ w.grownBy wr (some B)) (fun i _ => k - (intOf i).toNat)
 case atStart => exact ⟨0, Nat.zero_le _, rfl, HB.out, only_none _ _⟩
 obtain ⟨j, hj, rfl, hB, hO⟩ := hrel
 clear HB
 by_cases hlt : j < k
 rotate_left
 ·obtain rfl : j = k := by omega
  have HB := Lib.hid hB
  have HO := Lib.hid hO
  clear hB hO
  go_wp2
  go_end0
  exact ⟨rfl, HB.out, HO.out⟩
 have okr := stirN_ok ok j
 obtain ⟨r, hr⟩ : ∃ r, r = stirN j s := ⟨_, rfl⟩
 rw [← hr] at okr hB
 have HR := Lib.hid hr
 clear hr
 obtain ⟨⟨a0, a1⟩, ⟨b0, b1⟩, ⟨c0, c1⟩, ⟨d0, d1⟩⟩ := okr
 have k0 : wr.cell? ⟨B, 0, none⟩ = some (.int .u32 r.a) := hB.cell 0
 have k1 : wr.cell? ⟨B, 1, none⟩ = some (.int .u32 r.b) := hB.cell 1
 have k2 : wr.cell? ⟨B, 2, none⟩ = some (.int .u32 r.c) := hB.cell 2
 have k3 : wr.cell? ⟨B, 3, none⟩ = some (.int .u32 r.d) := hB.cell 3
 have f0 : wr.frozen? ⟨B, 0, none⟩ = false := hB.fr 0
 have f1 : wr.frozen? ⟨B, 1, none⟩ = false := hB.fr 1
 have f2 : wr.frozen? ⟨B, 2, none⟩ = false := hB.fr 2
 have f3 : wr.frozen? ⟨B, 3, none⟩ = false := hB.fr 3
 have HB := Lib.hid hB
 have HO := Lib.hid hO
 clear hB hO
 go_wp2
 go_still_tail 10, (by kernel_rfl)
 change wpList _ _ _ _ _ wr.drew
 go_wp2
 generalize hw : (wr.setCell ⟨B, 0, none⟩ (.int .u32 ((r.a + r.b) % 4294967296))).drew = w0
 have hO : Hid (w.grownBy w0 (some B)) := by rw [← hw]; exact Lib.hid (only_draw (only_put HO.out 0 (.int .u32 ((r.a + r.b) % 4294967296))))
 have hB : Hid (Bk w0 B 193 #[.int .u32 ((r.a + r.b) % 4294967296), .int .u32 r.b, .int .u32 r.c, .int .u32 r.d]) := by rw [← hw]; exact Lib.hid (HB.out.put 0 (.int .u32 ((r.a + r.b) % 4294967296))).draw
 clear hw k0 k1 k2 k3 f0 f1 f2 f3 HO HB
 obtain ⟨v0, hv0⟩ : ∃ v, v = addW r.a r.b := ⟨_, rfl⟩
 have hy0 := addW_w r.a r.b
 rw [show (r.a + r.b) % 4294967296 = v0 from hv0.symm] at hB
 rw [← hv0] at hy0
 have Hv0 := Lib.hid hv0
 clear hv0
 have pv0 := hy0.1
 have qv0 := hy0.2
 clear hy0
 have k0 : w0.cell? ⟨B, 0, none⟩ = some (.int .u32 v0) := hB.out.cell 0
 have k1 : w0.cell? ⟨B, 1, none⟩ = some (.int .u32 r.b) := hB.out.cell 1
 have k2 : w0.cell? ⟨B, 2, none⟩ = some (.int .u32 r.c) := hB.out.cell 2
 have k3 : w0.cell? ⟨B, 3, none⟩ = some (.int .u32 r.d) := hB.out.cell 3
 have f0 : w0.frozen? ⟨B, 0, none⟩ = false := hB.out.fr 0
 have f1 : w0.frozen? ⟨B, 1, none⟩ = false := hB.out.fr 1
 have f2 : w0.frozen? ⟨B, 2, none⟩ = false := hB.out.fr 2
 have f3 : w0.frozen? ⟨B, 3, none⟩ = false := hB.out.fr 3
 have HB := hB
 have HO := hO
 clear hB hO
 go_still_tail 12, (by kernel_rfl)
 have hx1 := xorW_w (x := r.d) (y := v0) ⟨by omega, by omega⟩ ⟨by omega, by omega⟩
 refine wpStill_step (fun K hK => ?_)
 go_simp
 refine ⟨_, flip_calls (rol16 _ hx1 _), hK _ ?_⟩
 clear hK K
 still_step
 refine wpStill_nil ?_
 have hy1 := rotN_w hx1 16
 obtain ⟨v1, hv1⟩ : ∃ v, v = rotN 16 (xorW r.d v0) := ⟨_, rfl⟩
 change wpList _ _ _ _ _ w0.drew
 rw [← hv1] at hy1 ⊢
 have Hv1 := Lib.hid hv1
 clear hv1 hx1
 have pv1 := hy1.1
 have qv1 := hy1.2
 clear hy1
 go_wp2
 generalize hw : (w0.setCell ⟨B, 3, none⟩ (.int .u32 v1)).drew = w1
 have hO : Hid (w.grownBy w1 (some B)) := by rw [← hw]; exact Lib.hid (only_draw (only_put HO.out 3 (.int .u32 v1)))
 have hB : Hid (Bk w1 B 193 #[.int .u32 v0, .int .u32 r.b, .int .u32 r.c, .int .u32 v1]) := by rw [← hw]; exact Lib.hid (HB.out.put 3 (.int .u32 v1)).draw
 clear hw k0 k1 k2 k3 f0 f1 f2 f3 HO HB
 have k0 : w1.cell? ⟨B, 0, none⟩ = some (.int .u32 v0) := hB.out.cell 0
 have k1 : w1.cell? ⟨B, 1, none⟩ = some (.int .u32 r.b) := hB.out.cell 1
 have k2 : w1.cell? ⟨B, 2, none⟩ = some (.int .u32 r.c) := hB.out.cell 2
 have k3 : w1.cell? ⟨B, 3, none⟩ = some (.int .u32 v1) := hB.out.cell 3
 have f0 : w1.frozen? ⟨B, 0, none⟩ = false := hB.out.fr 0
 have f1 : w1.frozen? ⟨B, 1, none⟩ = false := hB.out.fr 1
 have f2 : w1.frozen? ⟨B, 2, none⟩ = false := hB.out.fr 2
 have f3 : w1.frozen? ⟨B, 3, none⟩ = false := hB.out.fr 3
 have HB := hB
 have HO := hO
 clear hB hO
 go_still_tail 10, (by kernel_rfl)
 change wpList _ _ _ _ _ w1.drew
 go_wp2
 generalize hw : (w1.setCell ⟨B, 2, none⟩ (.int .u32 ((r.c + v1) % 4294967296))).drew = w2
 have hO : Hid (w.grownBy w2 (some B)) := by rw [← hw]; exact Lib.hid (only_draw (only_put HO.out 2 (.int .u32 ((r.c + v1) % 4294967296))))
 have hB : Hid (Bk w2 B 193 #[.int .u32 v0, .int .u32 r.b, .int .u32 ((r.c + v1) % 4294967296), .int .u32 v1]) := by rw [← hw]; exact Lib.hid (HB.out.put 2 (.int .u32 ((r.c + v1) % 4294967296))).draw
 clear hw k0 k1 k2 k3 f0 f1 f2 f3 HO HB
 obtain ⟨v2, hv2⟩ : ∃ v, v = addW r.c v1 := ⟨_, rfl⟩
 have hy2 := addW_w r.c v1
 rw [show (r.c + v1) % 4294967296 = v2 from hv2.symm] at hB
 rw [← hv2] at hy2
 have Hv2 := Lib.hid hv2
 clear hv2
 have pv2 := hy2.1
 have qv2 := hy2.2
 clear hy2
 have k0 : w2.cell? ⟨B, 0, none⟩ = some (.int .u32 v0) := hB.out.cell 0
 have k1 : w2.cell? ⟨B, 1, none⟩ = some (.int .u32 r.b) := hB.out.cell 1
 have k2 : w2.cell? ⟨B, 2, none⟩ = some (.int .u32 v2) := hB.out.cell 2
 have k3 : w2.cell? ⟨B, 3, none⟩ = some (.int .u32 v1) := hB.out.cell 3
 have f0 : w2.frozen? ⟨B, 0, none⟩ = false := hB.out.fr 0
 have f1 : w2.frozen? ⟨B, 1, none⟩ = false := hB.out.fr 1
 have f2 : w2.frozen? ⟨B, 2, none⟩ = false := hB.out.fr 2
 have f3 : w2.frozen? ⟨B, 3, none⟩ = false := hB.out.fr 3
 have HB := hB
 have HO := hO
 clear hB hO
 go_still_tail 12, (by kernel_rfl)
 have hx3 := xorW_w (x := r.b) (y := v2) ⟨by omega, by omega⟩ ⟨by omega, by omega⟩
 refine wpStill_step (fun K hK => ?_)
 go_simp
 refine ⟨_, flip_calls (rol12 _ hx3 _), hK _ ?_⟩
 clear hK K
 still_step
 refine wpStill_nil ?_
 have hy3 := rotN_w hx3 12
 obtain ⟨v3, hv3⟩ : ∃ v, v = rotN 12 (xorW r.b v2) := ⟨_, rfl⟩
 change wpList _ _ _ _ _ w2.drew
 rw [← hv3] at hy3 ⊢
 have Hv3 := Lib.hid hv3
 clear hv3 hx3
 have pv3 := hy3.1
 have qv3 := hy3.2
 clear hy3
 go_wp2
 generalize hw : (w2.setCell ⟨B, 1, none⟩ (.int .u32 v3)).drew = w3
 have hO : Hid (w.grownBy w3 (some B)) := by rw [← hw]; exact Lib.hid (only_draw (only_put HO.out 1 (.int .u32 v3)))
 have hB : Hid (Bk w3 B 193 #[.int .u32 v0, .int .u32 v3, .int .u32 v2, .int .u32 v1]) := by rw [← hw]; exact Lib.hid (HB.out.put 1 (.int .u32 v3)).draw
 clear hw k0 k1 k2 k3 f0 f1 f2 f3 HO HB
 have k0 : w3.cell? ⟨B, 0, none⟩ = some (.int .u32 v0) := hB.out.cell 0
 have k1 : w3.cell? ⟨B, 1, none⟩ = some (.int .u32 v3) := hB.out.cell 1
 have k2 : w3.cell? ⟨B, 2, none⟩ = some (.int .u32 v2) := hB.out.cell 2
 have k3 : w3.cell? ⟨B, 3, none⟩ = some (.int .u32 v1) := hB.out.cell 3
 have f0 : w3.frozen? ⟨B, 0, none⟩ = false := hB.out.fr 0
 have f1 : w3.frozen? ⟨B, 1, none⟩ = false := hB.out.fr 1
 have f2 : w3.frozen? ⟨B, 2, none⟩ = false := hB.out.fr 2
 have f3 : w3.frozen? ⟨B, 3, none⟩ = false := hB.out.fr 3
 have HB := hB
 have HO := hO
 clear hB hO
 go_still_tail 10, (by kernel_rfl)
 change wpList _ _ _ _ _ w3.drew
 go_wp2
 generalize hw : (w3.setCell ⟨B, 0, none⟩ (.int .u32 ((v0 + v3) % 4294967296))).drew = w4
 have hO : Hid (w.grownBy w4 (some B)) := by rw [← hw]; exact Lib.hid (only_draw (only_put HO.out 0 (.int .u32 ((v0 + v3) % 4294967296))))
 have hB : Hid (Bk w4 B 193 #[.int .u32 ((v0 + v3) % 4294967296), .int .u32 v3, .int .u32 v2, .int .u32 v1]) := by rw [← hw]; exact Lib.hid (HB.out.put 0 (.int .u32 ((v0 + v3) % 4294967296))).draw
 clear hw k0 k1 k2 k3 f0 f1 f2 f3 HO HB
 obtain ⟨v4, hv4⟩ : ∃ v, v = addW v0 v3 := ⟨_, rfl⟩
 have hy4 := addW_w v0 v3
 rw [show (v0 + v3) % 4294967296 = v4 from hv4.symm] at hB
 rw [← hv4] at hy4
 have Hv4 := Lib.hid hv4
 clear hv4
 have pv4 := hy4.1
 have qv4 := hy4.2
 clear hy4
 have k0 : w4.cell? ⟨B, 0, none⟩ = some (.int .u32 v4) := hB.out.cell 0
 have k1 : w4.cell? ⟨B, 1, none⟩ = some (.int .u32 v3) := hB.out.cell 1
 have k2 : w4.cell? ⟨B, 2, none⟩ = some (.int .u32 v2) := hB.out.cell 2
 have k3 : w4.cell? ⟨B, 3, none⟩ = some (.int .u32 v1) := hB.out.cell 3
 have f0 : w4.frozen? ⟨B, 0, none⟩ = false := hB.out.fr 0
 have f1 : w4.frozen? ⟨B, 1, none⟩ = false := hB.out.fr 1
 have f2 : w4.frozen? ⟨B, 2, none⟩ = false := hB.out.fr 2
 have f3 : w4.frozen? ⟨B, 3, none⟩ = false := hB.out.fr 3
 have HB := hB
 have HO := hO
 clear hB hO
 go_still_tail 12, (by kernel_rfl)
 have hx5 := xorW_w (x := v1) (y := v4) ⟨by omega, by omega⟩ ⟨by omega, by omega⟩
 refine wpStill_step (fun K hK => ?_)
 go_simp
 refine ⟨_, flip_calls (rol8 _ hx5 _), hK _ ?_⟩
 clear hK K
 still_step
 refine wpStill_nil ?_
 have hy5 := rotN_w hx5 8
 obtain ⟨v5, hv5⟩ : ∃ v, v = rotN 8 (xorW v1 v4) := ⟨_, rfl⟩
 change wpList _ _ _ _ _ w4.drew
 rw [← hv5] at hy5 ⊢
 have Hv5 := Lib.hid hv5
 clear hv5 hx5
 have pv5 := hy5.1
 have qv5 := hy5.2
 clear hy5
 go_wp2
 generalize hw : (w4.setCell ⟨B, 3, none⟩ (.int .u32 v5)).drew = w5
 have hO : Hid (w.grownBy w5 (some B)) := by rw [← hw]; exact Lib.hid (only_draw (only_put HO.out 3 (.int .u32 v5)))
 have hB : Hid (Bk w5 B 193 #[.int .u32 v4, .int .u32 v3, .int .u32 v2, .int .u32 v5]) := by rw [← hw]; exact Lib.hid (HB.out.put 3 (.int .u32 v5)).draw
 clear hw k0 k1 k2 k3 f0 f1 f2 f3 HO HB
 have k0 : w5.cell? ⟨B, 0, none⟩ = some (.int .u32 v4) := hB.out.cell 0
 have k1 : w5.cell? ⟨B, 1, none⟩ = some (.int .u32 v3) := hB.out.cell 1
 have k2 : w5.cell? ⟨B, 2, none⟩ = some (.int .u32 v2) := hB.out.cell 2
 have k3 : w5.cell? ⟨B, 3, none⟩ = some (.int .u32 v5) := hB.out.cell 3
 have f0 : w5.frozen? ⟨B, 0, none⟩ = false := hB.out.fr 0
 have f1 : w5.frozen? ⟨B, 1, none⟩ = false := hB.out.fr 1
 have f2 : w5.frozen? ⟨B, 2, none⟩ = false := hB.out.fr 2
 have f3 : w5.frozen? ⟨B, 3, none⟩ = false := hB.out.fr 3
 have HB := hB
 have HO := hO
 clear hB hO
 go_still_tail 10, (by kernel_rfl)
 change wpList _ _ _ _ _ w5.drew
 go_wp2
 generalize hw : (w5.setCell ⟨B, 2, none⟩ (.int .u32 ((v2 + v5) % 4294967296))).drew = w6
 have hO : Hid (w.grownBy w6 (some B)) := by rw [← hw]; exact Lib.hid (only_draw (only_put HO.out 2 (.int .u32 ((v2 + v5) % 4294967296))))
 have hB : Hid (Bk w6 B 193 #[.int .u32 v4, .int .u32 v3, .int .u32 ((v2 + v5) % 4294967296), .int .u32 v5]) := by rw [← hw]; exact Lib.hid (HB.out.put 2 (.int .u32 ((v2 + v5) % 4294967296))).draw
 clear hw k0 k1 k2 k3 f0 f1 f2 f3 HO HB
 obtain ⟨v6, hv6⟩ : ∃ v, v = addW v2 v5 := ⟨_, rfl⟩
 have hy6 := addW_w v2 v5
 rw [show (v2 + v5) % 4294967296 = v6 from hv6.symm] at hB
 rw [← hv6] at hy6
 have Hv6 := Lib.hid hv6
 clear hv6
 have pv6 := hy6.1
 have qv6 := hy6.2
 clear hy6
 have k0 : w6.cell? ⟨B, 0, none⟩ = some (.int .u32 v4) := hB.out.cell 0
 have k1 : w6.cell? ⟨B, 1, none⟩ = some (.int .u32 v3) := hB.out.cell 1
 have k2 : w6.cell? ⟨B, 2, none⟩ = some (.int .u32 v6) := hB.out.cell 2
 have k3 : w6.cell? ⟨B, 3, none⟩ = some (.int .u32 v5) := hB.out.cell 3
 have f0 : w6.frozen? ⟨B, 0, none⟩ = false := hB.out.fr 0
 have f1 : w6.frozen? ⟨B, 1, none⟩ = false := hB.out.fr 1
 have f2 : w6.frozen? ⟨B, 2, none⟩ = false := hB.out.fr 2
 have f3 : w6.frozen? ⟨B, 3, none⟩ = false := hB.out.fr 3
 have HB := hB
 have HO := hO
 clear hB hO
 go_still_tail 12, (by kernel_rfl)
 have hx7 := xorW_w (x := v3) (y := v6) ⟨by omega, by omega⟩ ⟨by omega, by omega⟩
 refine wpStill_step (fun K hK => ?_)
 go_simp
 refine ⟨_, flip_calls (rol7 _ hx7 _), hK _ ?_⟩
 clear hK K
 still_step
 refine wpStill_nil ?_
 have hy7 := rotN_w hx7 7
 obtain ⟨v7, hv7⟩ : ∃ v, v = rotN 7 (xorW v3 v6) := ⟨_, rfl⟩
 change wpList _ _ _ _ _ w6.drew
 rw [← hv7] at hy7 ⊢
 have Hv7 := Lib.hid hv7
 clear hv7 hx7
 have pv7 := hy7.1
 have qv7 := hy7.2
 clear hy7
 go_wp2
 generalize hw : (w6.setCell ⟨B, 1, none⟩ (.int .u32 v7)).drew = w7
 have hO : Hid (w.grownBy w7 (some B)) := by rw [← hw]; exact Lib.hid (only_draw (only_put HO.out 1 (.int .u32 v7)))
 have hB : Hid (Bk w7 B 193 #[.int .u32 v4, .int .u32 v7, .int .u32 v6, .int .u32 v5]) := by rw [← hw]; exact Lib.hid (HB.out.put 1 (.int .u32 v7)).draw
 clear hw k0 k1 k2 k3 f0 f1 f2 f3 HO HB
 have k0 : w7.cell? ⟨B, 0, none⟩ = some (.int .u32 v4) := hB.out.cell 0
 have k1 : w7.cell? ⟨B, 1, none⟩ = some (.int .u32 v7) := hB.out.cell 1
 have k2 : w7.cell? ⟨B, 2, none⟩ = some (.int .u32 v6) := hB.out.cell 2
 have k3 : w7.cell? ⟨B, 3, none⟩ = some (.int .u32 v5) := hB.out.cell 3
 have f0 : w7.frozen? ⟨B, 0, none⟩ = false := hB.out.fr 0
 have f1 : w7.frozen? ⟨B, 1, none⟩ = false := hB.out.fr 1
 have f2 : w7.frozen? ⟨B, 2, none⟩ = false := hB.out.fr 2
 have f3 : w7.frozen? ⟨B, 3, none⟩ = false := hB.out.fr 3
 have HB := hB
 have HO := hO
 clear hB hO
 go_roundw
 case rel =>
  have e0 := Hv0.out
  have e1 := Hv1.out
  have e2 := Hv2.out
  have e3 := Hv3.out
  have e4 := Hv4.out
  have e5 := Hv5.out
  have e6 := Hv6.out
  have e7 := Hv7.out
  have hc : (stir1 r).cells = #[.int .u32 v4, .int .u32 v7, .int .u32 v6, .int .u32 v5] := by
   subst e0; subst e1; subst e2; subst e3; subst e4; subst e5; subst e6; subst e7; rfl
  have hn : stir1 r = stirN (j + 1) s := by rw [HR.out]; rfl
  exact ⟨j + 1, by omega, by go_num, by rw [← hn, hc]; exact HB.out, HO.out⟩
 case measure => simp [intOf]; omega
end Go.Proofs.Ytmjfnpmnhehnkaa.Sm
namespace Go.Proofs.Ytmjfnpmnhehnkaa.Sm
open Go.RowKit
def word4 (a b c d : UInt8) : Int := (a.toNat : Int) + (b.toNat : Int) * 256 + (c.toNat : Int) * 65536 + (d.toNat : Int) * 16777216
theorem u8lt (a : UInt8) : (0 : Int) ≤ (a.toNat : Int) ∧ (a.toNat : Int) < 256 := ⟨by omega, by have := a.toNat_lt; omega⟩
theorem or_join' (i : Nat) (b a : Int) (ha : 0 ≤ a) (ha' : a < 4294967296) (hb : 0 ≤ b) (hb' : b < 4294967296) (h1 : a.toNat % 2 ^ i = 0) (h2 : b.toNat < 2 ^ i) : bits .or .u32 b a = b + a := by
 rw [u32_or b a hb hb' ha ha', Nat.or_comm, nat_join i _ _ h1 h2]; omega
theorem word4_w (a b c d : UInt8) : isW (word4 a b c d) := by
 have := u8lt a; have := u8lt b; have := u8lt c; have := u8lt d
 unfold word4 isW; omega
theorem word_any (A o n c : Nat) (hn : 4 ≤ n) (x0 x1 x2 x3 : UInt8) (w : World)
  (c0 : w.cell? ⟨A, o, none⟩ = some (.int .u8 x0.toNat)) (c1 : w.cell? ⟨A, o + 1, none⟩ = some (.int .u8 x1.toNat)) (c2 : w.cell? ⟨A, o + 2, none⟩ = some (.int .u8 x2.toNat)) (c3 : w.cell? ⟨A, o + 3, none⟩ = some (.int .u8 x3.toNat)) :
  Calls Try.prog 142 #[.slice (some ⟨A, o, none⟩) n c] w fun e w' => e = .returned (.int .u32 (word4 x0 x1 x2 x3)) ∧ ∃ m, w' = w.drewN m := by
 obtain ⟨a0, a1⟩ := u8lt x0
 obtain ⟨b0, b1⟩ := u8lt x1
 obtain ⟨d0, d1⟩ := u8lt x2
 obtain ⟨e0, e1⟩ := u8lt x3
 have n0 : (0 : Int) < (n : Int) := by omega
 have n1 : (1 : Int) < (n : Int) := by omega
 have n2 : (2 : Int) < (n : Int) := by omega
 have n3 : (3 : Int) < (n : Int) := by omega
 go_enter Try.func142, Try.ntmps142
 go_wp2
 go_quiet (fail)
 go_wp2
 go_ret
 refine ⟨smret (congrArg (Value.int .u32) ?_), _, rfl⟩
 rw [or_join' 8 (x0.toNat : Int) ((x1.toNat : Int) * 256) (by omega) (by omega) (by omega) (by omega) (by omega) (by omega), or_join' 16 ((x0.toNat : Int) + (x1.toNat : Int) * 256) ((x2.toNat : Int) * 65536) (by omega) (by omega) (by omega) (by omega) (by omega) (by omega), or_join' 24 ((x0.toNat : Int) + (x1.toNat : Int) * 256 + (x2.toNat : Int) * 65536) ((x3.toNat : Int) * 16777216) (by omega) (by omega) (by omega) (by omega) (by omega) (by omega)]
 unfold word4; omega
theorem rword_any (A o n c : Nat) (hn : 4 ≤ n) (x0 x1 x2 x3 : UInt8) (w : World)
  (c0 : w.cell? ⟨A, o, none⟩ = some (.int .u8 x0.toNat)) (c1 : w.cell? ⟨A, o + 1, none⟩ = some (.int .u8 x1.toNat)) (c2 : w.cell? ⟨A, o + 2, none⟩ = some (.int .u8 x2.toNat)) (c3 : w.cell? ⟨A, o + 3, none⟩ = some (.int .u8 x3.toNat)) :
  Calls Try.prog 107 #[.slice (some ⟨A, o, none⟩) n c] w fun e w' => e = .returned (.int .u32 (word4 x0 x1 x2 x3)) ∧ w = w' := by
 obtain ⟨a0, a1⟩ := u8lt x0
 obtain ⟨b0, b1⟩ := u8lt x1
 obtain ⟨d0, d1⟩ := u8lt x2
 obtain ⟨e0, e1⟩ := u8lt x3
 have n0 : (0 : Int) < (n : Int) := by omega
 have n1 : (1 : Int) < (n : Int) := by omega
 have n2 : (2 : Int) < (n : Int) := by omega
 have n3 : (3 : Int) < (n : Int) := by omega
 go_enter Try.func107, Try.ntmps107
 go_wp2
 refine wp_loop_rounds 5 ?_
 rw [rounds_succ]
 go_wp2
 rw [rounds_succ]
 go_wp2
 rw [rounds_succ]
 go_wp2
 rw [rounds_succ]
 go_wp2
 rw [rounds_succ]
 go_wp2
 go_ret
 refine ⟨smret (congrArg (Value.int .u32) ?_), rfl⟩
 unfold word4; omega
end Go.Proofs.Ytmjfnpmnhehnkaa.Sm
namespace Go.Proofs.Ytmjfnpmnhehnkaa.Sm
open Go.RowKit
theorem only_drawN {a w : World} {row : Option Nat} (h : a.grownBy w row) (n : Nat) : a.grownBy (w.drewN n) row := ⟨h.os, h.tape, h.output, h.size, h.block⟩
theorem Bk.drawN {w : World} {B : Nat} {t : TypeId} {cs : Array Value} (h : Bk w B t cs) (n : Nat) : Bk (w.drewN n) B t cs := h
theorem stir3 (s : Wd) (ok : s.Ok) (B : Nat) (w : World) (hB : Bk w B 193 s.cells) :
  Calls Try.prog 128 #[.pointer (some ⟨B, 0, none⟩), .int .i64 3] w fun e w' => e = .returned (.tuple #[]) ∧ Bk w' B 193 (stirN 3 s).cells ∧ w.grownBy w' (some B) := stir_any s ok B 3 (by omega) w hB
theorem stir8 (s : Wd) (ok : s.Ok) (B : Nat) (w : World) (hB : Bk w B 193 s.cells) :
  Calls Try.prog 128 #[.pointer (some ⟨B, 0, none⟩), .int .i64 8] w fun e w' => e = .returned (.tuple #[]) ∧ Bk w' B 193 (stirN 8 s).cells ∧ w.grownBy w' (some B) := stir_any s ok B 8 (by omega) w hB
theorem only_trans {a b c : World} {row : Option Nat} (h : a.grownBy b row) (k : b.grownBy c row) : a.grownBy c row :=
 ⟨k.os.trans h.os, k.tape.trans h.tape, k.output.trans h.output, Nat.le_trans h.size k.size, fun i hi hne => (k.block i (Nat.lt_of_lt_of_le hi h.size) hne).trans (h.block i hi hne)⟩
def takeW (s : Wd) (x y : Int) : Wd := stirN 3 ⟨xorW s.a x, s.b, s.c, xorW s.d y⟩
theorem take_any (s : Wd) (ok : s.Ok) (B A o n c : Nat) (hn : 8 ≤ n) (hc : n ≤ c) (x0 x1 x2 x3 x4 x5 x6 x7 : UInt8) (w : World) (hB : Bk w B 193 s.cells)
  (c0 : w.cell? ⟨A, o, none⟩ = some (.int .u8 x0.toNat)) (c1 : w.cell? ⟨A, o + 1, none⟩ = some (.int .u8 x1.toNat)) (c2 : w.cell? ⟨A, o + 2, none⟩ = some (.int .u8 x2.toNat)) (c3 : w.cell? ⟨A, o + 3, none⟩ = some (.int .u8 x3.toNat))
  (c4 : w.cell? ⟨A, o + 4, none⟩ = some (.int .u8 x4.toNat)) (c5 : w.cell? ⟨A, o + 5, none⟩ = some (.int .u8 x5.toNat)) (c6 : w.cell? ⟨A, o + 6, none⟩ = some (.int .u8 x6.toNat)) (c7 : w.cell? ⟨A, o + 7, none⟩ = some (.int .u8 x7.toNat)) (hA : A ≠ B) :
  Calls Try.prog 126 #[.pointer (some ⟨B, 0, none⟩), .slice (some ⟨A, o, none⟩) n c] w fun e w' => e = .returned (.tuple #[]) ∧ Bk w' B 193 (takeW s (word4 x0 x1 x2 x3) (word4 x4 x5 x6 x7)).cells ∧ w.grownBy w' (some B) := by
 have C1 := Lib.hid (fun (W : World) h0 h1 h2 h3 => word_any A o n c (by omega) x0 x1 x2 x3 W h0 h1 h2 h3)
 have D1 := Lib.hid (fun (W : World) h0 h1 h2 h3 => word_any A (o + 4) (n - 4) (c - 4) (by omega) x4 x5 x6 x7 W h0 h1 h2 h3)
 have okw := word4_w x0 x1 x2 x3
 have okw2 := word4_w x4 x5 x6 x7
 have oka := ok.a
 have okd := ok.d
 have okn : Wd.Ok ⟨xorW s.a (word4 x0 x1 x2 x3), s.b, s.c, xorW s.d (word4 x4 x5 x6 x7)⟩ := ⟨xorW_w ok.a okw, ok.b, ok.c, xorW_w ok.d okw2⟩
 have k0 : w.cell? ⟨B, 0, none⟩ = some (.int .u32 s.a) := hB.cell 0
 have f0 : w.frozen? ⟨B, 0, none⟩ = false := hB.fr 0
 have HB := Lib.hid hB
 clear hB
 go_enter Try.func126, Try.ntmps126
 go_wp2_with fail
 go_region_with (go_at_call 142; refine (C1.out _ (by simpa using c0) (by simpa using c1) (by simpa using c2) (by simpa using c3)).mono ?_; rintro e w1 ⟨rfl, m, rfl⟩)
 all_goals
  generalize hw : ((w.drewN (1 + m)).setCell ⟨B, 0, none⟩ (.int .u32 (bits BinOp.xor IntKind.u32 s.a (word4 x0 x1 x2 x3)))) = w1
  have hO : Hid (w.grownBy w1 (some B)) := by rw [← hw]; exact Lib.hid (only_put (only_drawN (only_none w _) (1 + m)) 0 _)
  have hB : Hid (Bk w1 B 193 #[.int .u32 (xorW s.a (word4 x0 x1 x2 x3)), .int .u32 s.b, .int .u32 s.c, .int .u32 s.d]) := by rw [← hw]; exact Lib.hid ((HB.out.drawN (1 + m)).put 0 _)
  have far : ∀ i v, w.cell? ⟨A, i, none⟩ = some v → w1.cell? ⟨A, i, none⟩ = some v := by
   intro i v h
   exact hO.out.cell (a := ⟨A, i, none⟩) h (by simpa using hA)
  have e4 := far _ _ c4
  have e5 := far _ _ c5
  have e6 := far _ _ c6
  have e7 := far _ _ c7
  clear hw k0 f0 c0 c1 c2 c3 c4 c5 c6 c7 C1 far HB
  have k3 : w1.cell? ⟨B, 3, none⟩ = some (.int .u32 s.d) := hB.out.cell 3
  have f3 : w1.frozen? ⟨B, 3, none⟩ = false := hB.out.fr 3
  have q4 : (4 : Int) ≤ (n : Int) := by omega
  have q5 : ¬ c = 4 := by omega
  go_wp2_with fail
 all_goals
  go_region_with (go_at_call 142; refine (D1.out _ (by simpa using e4) (by simpa using e5) (by simpa using e6) (by simpa using e7)).mono ?_; rintro e w2 ⟨rfl, m2, rfl⟩)
 all_goals
  generalize hw : ((w1.drewN (1 + m2)).setCell ⟨B, 3, none⟩ (.int .u32 (bits BinOp.xor IntKind.u32 s.d (word4 x4 x5 x6 x7)))) = w2
  have hO2 : Hid (w.grownBy w2 (some B)) := by rw [← hw]; exact Lib.hid (only_put (only_drawN hO.out (1 + m2)) 3 _)
  have hB2 : Bk w2 B 193 (Wd.cells ⟨xorW s.a (word4 x0 x1 x2 x3), s.b, s.c, xorW s.d (word4 x4 x5 x6 x7)⟩) := by rw [← hw]; exact (hB.out.drawN (1 + m2)).put 3 _
  have S := Lib.hid (stir3 _ okn B w2 hB2)
  clear hw hB2 hB hO k3 f3 e4 e5 e6 e7 D1
  go_wp2_with fail
  refine S.out.mono ?_
  rintro e w3 ⟨rfl, h3, o3⟩
  have h3 := Lib.hid h3
  have o3 := Lib.hid o3
  clear S
  go_wp2_with fail
  go_end0
  exact ⟨rfl, h3.out, only_trans hO2.out o3.out⟩
end Go.Proofs.Ytmjfnpmnhehnkaa.Sm
