/- walks: take of blend's words -/
import Derived.Test.YtmjfnpmnhehnkaaSmE
import Derived.Deep.RegionWith
import Derived.Deep.RegionHeld3
import Derived.BigRegion
namespace Go.Proofs.Ytmjfnpmnhehnkaa.Sm
open Go.RowKit
theorem only_drawN {a w : World} {row : Option Nat} (h : a.grownBy w row) (n : Nat) : a.grownBy (w.drewN n) row := ⟨h.os, h.tape, h.output, h.size, h.block⟩
theorem Bk.drawN {w : World} {B : Nat} {t : TypeId} {cs : Array Value} (h : Bk w B t cs) (n : Nat) : Bk (w.drewN n) B t cs := h
theorem stir3 (s : Wd) (ok : s.Ok) (B : Nat) (w : World) (hB : Bk w B 193 s.cells) :
    Calls Try.prog 128 #[.pointer (some ⟨B, 0, none⟩), .int .i64 3] w fun e w' => e = .returned (.tuple #[]) ∧ Bk w' B 193 (stirN 3 s).cells ∧ w.grownBy w' (some B) := stir_any s ok B 3 (by omega) w hB
theorem stir8 (s : Wd) (ok : s.Ok) (B : Nat) (w : World) (hB : Bk w B 193 s.cells) :
    Calls Try.prog 128 #[.pointer (some ⟨B, 0, none⟩), .int .i64 8] w fun e w' => e = .returned (.tuple #[]) ∧ Bk w' B 193 (stirN 8 s).cells ∧ w.grownBy w' (some B) := stir_any s ok B 8 (by omega) w hB
theorem only_trans {a b c : World} {row : Option Nat} (h : a.grownBy b row) (k : b.grownBy c row) : a.grownBy c row :=
  ⟨k.os.trans h.os, k.tape.trans h.tape, k.output.trans h.output, Nat.le_trans h.size k.size, fun i hi hne => (k.block i (Nat.lt_of_lt_of_le hi h.size) hne).trans (h.block i hi hne)⟩
def takeW (s : Wd) (x y : Int) : Wd := stirN 3 ⟨xorW s.a x, s.b, s.c, xorW s.d y⟩
set_option maxHeartbeats 1000000 in
set_option maxRecDepth 100000 in
theorem take_any (s : Wd) (ok : s.Ok) (B A o n c : Nat) (hn : 8 ≤ n) (hc : n ≤ c) (x0 x1 x2 x3 x4 x5 x6 x7 : UInt8) (w : World) (hB : Bk w B 193 s.cells)
    (c0 : w.cell? ⟨A, o, none⟩ = some (.int .u8 x0.toNat)) (c1 : w.cell? ⟨A, o + 1, none⟩ = some (.int .u8 x1.toNat)) (c2 : w.cell? ⟨A, o + 2, none⟩ = some (.int .u8 x2.toNat)) (c3 : w.cell? ⟨A, o + 3, none⟩ = some (.int .u8 x3.toNat))
    (c4 : w.cell? ⟨A, o + 4, none⟩ = some (.int .u8 x4.toNat)) (c5 : w.cell? ⟨A, o + 5, none⟩ = some (.int .u8 x5.toNat)) (c6 : w.cell? ⟨A, o + 6, none⟩ = some (.int .u8 x6.toNat)) (c7 : w.cell? ⟨A, o + 7, none⟩ = some (.int .u8 x7.toNat)) (hA : A ≠ B) :
    Calls Try.prog 126 #[.pointer (some ⟨B, 0, none⟩), .slice (some ⟨A, o, none⟩) n c] w fun e w' => e = .returned (.tuple #[]) ∧ Bk w' B 193 (takeW s (word4 x0 x1 x2 x3) (word4 x4 x5 x6 x7)).cells ∧ w.grownBy w' (some B) := by
  have C1 := Lib.hid (fun (W : World) h0 h1 h2 h3 => word_any A o n c (by omega) x0 x1 x2 x3 W h0 h1 h2 h3)
  have D1 := Lib.hid (fun (W : World) h0 h1 h2 h3 => word_any A (o + 4) (n - 4) (c - 4) (by omega) x4 x5 x6 x7 W h0 h1 h2 h3)
  have okw := word4_w x0 x1 x2 x3
  have okw2 := word4_w x4 x5 x6 x7
  have oka := ok.a
  have okd := ok.d
  have okn : Wd.Ok ⟨xorW s.a (word4 x0 x1 x2 x3), s.b, s.c, xorW s.d (word4 x4 x5 x6 x7)⟩ := ⟨xorW_w ok.a okw, ok.b, ok.c, xorW_w ok.d okw2⟩
  have k0 : w.cell? ⟨B, 0, none⟩ = some (.int .u32 s.a) := hB.cell 0
  have f0 : w.frozen? ⟨B, 0, none⟩ = false := hB.fr 0
  have HB := Lib.hid hB
  clear hB
  go_enter Try.func126, Try.ntmps126
  go_wp2_with fail
  go_region_with (go_at_call 142; refine (C1.out _ (by simpa using c0) (by simpa using c1) (by simpa using c2) (by simpa using c3)).mono ?_; rintro e w1 ⟨rfl, m, rfl⟩)
  all_goals
    generalize hw : ((w.drewN (1 + m)).setCell ⟨B, 0, none⟩ (.int .u32 (bits BinOp.xor IntKind.u32 s.a (word4 x0 x1 x2 x3)))) = w1
    have hO : Hid (w.grownBy w1 (some B)) := by rw [← hw]; exact Lib.hid (only_put (only_drawN (only_none w _) (1 + m)) 0 _)
    have hB : Hid (Bk w1 B 193 #[.int .u32 (xorW s.a (word4 x0 x1 x2 x3)), .int .u32 s.b, .int .u32 s.c, .int .u32 s.d]) := by rw [← hw]; exact Lib.hid ((HB.out.drawN (1 + m)).put 0 _)
    have far : ∀ i v, w.cell? ⟨A, i, none⟩ = some v → w1.cell? ⟨A, i, none⟩ = some v := by
      intro i v h
      exact hO.out.cell (a := ⟨A, i, none⟩) h (by simpa using hA)
    have e4 := far _ _ c4
    have e5 := far _ _ c5
    have e6 := far _ _ c6
    have e7 := far _ _ c7
    clear hw k0 f0 c0 c1 c2 c3 c4 c5 c6 c7 C1 far HB
    have k3 : w1.cell? ⟨B, 3, none⟩ = some (.int .u32 s.d) := hB.out.cell 3
    have f3 : w1.frozen? ⟨B, 3, none⟩ = false := hB.out.fr 3
    have q4 : (4 : Int) ≤ (n : Int) := by omega
    have q5 : ¬ c = 4 := by omega
    go_wp2_with fail
  all_goals
    go_region_with (go_at_call 142; refine (D1.out _ (by simpa using e4) (by simpa using e5) (by simpa using e6) (by simpa using e7)).mono ?_; rintro e w2 ⟨rfl, m2, rfl⟩)
  all_goals
    generalize hw : ((w1.drewN (1 + m2)).setCell ⟨B, 3, none⟩ (.int .u32 (bits BinOp.xor IntKind.u32 s.d (word4 x4 x5 x6 x7)))) = w2
    have hO2 : Hid (w.grownBy w2 (some B)) := by rw [← hw]; exact Lib.hid (only_put (only_drawN hO.out (1 + m2)) 3 _)
    have hB2 : Bk w2 B 193 (Wd.cells ⟨xorW s.a (word4 x0 x1 x2 x3), s.b, s.c, xorW s.d (word4 x4 x5 x6 x7)⟩) := by rw [← hw]; exact (hB.out.drawN (1 + m2)).put 3 _
    have S := Lib.hid (stir3 _ okn B w2 hB2)
    clear hw hB2 hB hO k3 f3 e4 e5 e6 e7 D1
    go_wp2_with fail
    refine S.out.mono ?_
    rintro e w3 ⟨rfl, h3, o3⟩
    have h3 := Lib.hid h3
    have o3 := Lib.hid o3
    clear S
    go_wp2_with fail
    go_end0
    exact ⟨rfl, h3.out, only_trans hO2.out o3.out⟩
end Go.Proofs.Ytmjfnpmnhehnkaa.Sm
