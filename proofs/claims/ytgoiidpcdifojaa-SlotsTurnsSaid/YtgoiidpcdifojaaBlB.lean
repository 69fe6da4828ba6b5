/- walks: slices.Grow of nil, slices.Concat of rows of bytes -/
import Derived.Test.YtgoiidpcdifojaaBlA
import Derived.Lib.AppendZeros
namespace Go.Proofs.Ytgoiidpcdifojaa.Sm
open Go.RowKit
def ownU (w : World) (B : Nat) (v : Value) (l : List UInt8) : Prop := w.ownsRow B 5 1 v l.length (Lib.byteCells l)
def GrowPost (w : World) (e : Ending) (w' : World) : Prop := ∃ v, e = .returned v ∧ w'.ownsRow w.heap.size 5 1 v 0 [] ∧ Below w.heap.size w w'
set_option maxHeartbeats 2000000 in
set_option maxRecDepth 100000 in
theorem grow_any (n : Nat) (hn : n ≤ 100000000000000) (w : World) :
    Calls Try.prog 79 #[.slice none 0 0, .int .i64 n] w (GrowPost w) := by
  by_cases h0 : n = 0
  · subst h0
    go_enter Try.func79, Try.ntmps79
    go_wp2_with fail
    go_ret
    exact ⟨_, rfl, World.ownsRow_nil _ _ _ _, Below.refl _ _⟩
  · obtain ⟨i0, hi0, hz0, hz1, hz2⟩ := info_parts sm_u8
    have hr := fun W ty => Lib.run_append_nil_zeros (P := Try.prog) W 27 3 ty 5 i0 (.int .u8 0) .i64 .i64 Try.underlying27 Try.underlying3 hi0 hz0 n (by omega) (by omega) (by omega) (by rw [hz2]; omega)
    have hG := fun W : World => grownCap_ge W n 0 5
    have hGm := fun W : World => grownCap_le_maxLen W n 0 5 (by unfold maxLen; omega)
    have HR := Lib.hid hr
    have n0 : (0 : Int) < (n : Int) := by omega
    clear hr hi0 hz0 hz1 hz2
    have g1 := hG w
    have g2 := hGm w
    obtain ⟨G, hGe⟩ : ∃ G, G = grownCap w n 0 5 := ⟨_, rfl⟩
    have h := fun ty => HR.out w ty
    rw [← hGe] at g1 g2 h
    have HR := Lib.hid h
    clear h hG hGm hGe
    unfold maxLen at g2
    go_enter Try.func79, Try.ntmps79
    go_wp2_with (at_builtin; refine Lib.wpList_append_run _ rfl (.tmp 20) (.tmp 21) 27 3 rfl _ _ rfl rfl _ _ (HR.out _) ?_)
    go_ret
    refine ⟨_, rfl, ?_, ((Below.refl _ _).drew).alloc (by exact Nat.le_refl _) _⟩
    have hs : (Builtin.zeroCells (Value.int .u8 0).cells n ++ Builtin.zeroCells (Value.int .u8 0).cells (G - n)).size = G * 1 := by
      rw [Array.size_append, size_zeroCells, size_zeroCells]
      show n * 1 + (G - n) * 1 = G * 1
      omega
    exact ⟨rfl, .inr ⟨w.heap.size, G, _, rfl, Nat.le_refl _, heap_alloc_new _ _, by omega, g2, hs, by simp⟩⟩
end Go.Proofs.Ytgoiidpcdifojaa.Sm
