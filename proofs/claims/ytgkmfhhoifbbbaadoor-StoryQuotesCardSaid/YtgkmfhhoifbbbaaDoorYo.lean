/- What the program reads of three lines; what it prints of a step that delivers. -/
import Derived.Test.YtgkmfhhoifbbbaaDoorYn
namespace Go.Proofs.YtgkmfhhoifbbbaaDoor
open Go Go.RowKit
theorem read_del7 (w : World) : Calls Tryd.prog 32 #[.string ⟨([100, 101, 108, 105, 118, 101, 114, 32, 55] : List UInt8).toArray⟩] w fun e w' => e = .returned (.tuple #[.agg delC.toArray, .bool true]) ∧ Below w.heap.size w w' := by
  refine (read_any [100, 101, 108, 105, 118, 101, 114, 32, 55] (by decide) 2 (by decide) (by decide) (by decide) (by kernel_rfl) ⟨[], false, delC⟩ (by kernel_rfl) w).mono ?_
  rintro e w' ⟨rfl, h⟩
  exact ⟨rfl, h⟩
theorem read_settle (w : World) : Calls Tryd.prog 32 #[.string ⟨([115, 101, 116, 116, 108, 101] : List UInt8).toArray⟩] w fun e w' => e = .returned (.tuple #[.agg (stepZ 14).toArray, .bool true]) ∧ Below w.heap.size w w' := by
  refine (read_any [115, 101, 116, 116, 108, 101] (by decide) 14 (by decide) (by decide) (by decide) (by kernel_rfl) ⟨[], false, stepZ 14⟩ (by kernel_rfl) w).mono ?_
  rintro e w' ⟨rfl, h⟩
  exact ⟨rfl, h⟩
theorem read_bad (w : World) : Calls Tryd.prog 32 #[.string ⟨([100, 101, 108, 105, 118, 101, 114, 32, 48, 49] : List UInt8).toArray⟩] w fun e w' => e = .returned (.tuple #[.agg (stepZ 0).toArray, .bool false]) ∧ Below w.heap.size w w' := by
  refine (read_any [100, 101, 108, 105, 118, 101, 114, 32, 48, 49] (by decide) 2 (by decide) (by decide) (by decide) (by kernel_rfl) ⟨[], true, (stepZ 2).set 3 (.int .i64 0)⟩ (by kernel_rfl) w).mono ?_
  rintro e w' ⟨rfl, h⟩
  exact ⟨rfl, h⟩
theorem bd_ext {B b : Nat} {acc : List UInt8} {w w' : World} (h : Bd B b acc w) (k : Ex w w') : Bd B b acc w' := by
  have key : ∀ p, Lib.BuilderAtF 62 5 B b p (Lib.byteCells acc) w → Lib.BuilderAtF 62 5 B b p (Lib.byteCells acc) w' := by
    rintro p ⟨h1, v, hb, hown, hne⟩
    refine ⟨h1, v, (k.block b (Array.getElem?_eq_some_iff.1 hb).1).trans hb, ?_, hne⟩
    refine ⟨hown.1, ?_⟩
    rcases hown.2 with h | ⟨g, cap, cur, fz, h2, h3, h4, h5⟩
    · exact .inl h
    · exact .inr ⟨g, cap, cur, fz, h2, h3, (k.block g (Array.getElem?_eq_some_iff.1 h4).1).trans h4, h5⟩
  rcases h with h | h
  · exact .inl (key _ h)
  · exact .inr (key _ h)
theorem same_del7 (w : World) : Calls Tryd.prog 36 #[.agg delC.toArray, .agg delC.toArray] w fun e w' => e = .returned (.bool true) ∧ Below w.heap.size w w' :=
  same_eq del7 rfl nilB nilB nilB nilB rfl rfl w (nilB_in _ _) (nilB_in _ _) (nilB_in _ _) (nilB_in _ _)
theorem delC_one : delC.toArray.all (·.oneCell') = true := by kernel_rfl
theorem step_new (W : World) : Bk (W.alloc (.cells Tryd.zeroCells37 37)) W.heap.size 37 (stepZ 0).toArray := Bk.new rfl _ _
set_option maxHeartbeats 8000000 in
set_option maxRecDepth 100000 in
theorem print_del7 (g : Nat) (w : World) (h : Bk w g 37 delC.toArray) : Calls Tryd.prog 23 #[.slice (some ⟨g, 0, none⟩) 1 1] w fun e w' => e = .returned (.tuple #[.string ⟨([100, 101, 108, 105, 118, 101, 114, 32, 55] ++ [10] : List UInt8).toArray⟩, .int .i64 0]) ∧ Below w.heap.size w w' := by
  have hlt := h.lt
  have hI0 := bd_new w
  have hB0 : Below w.heap.size w (w.alloc (.cells #[.pointer none, .slice none 0 0] 62)) := (Below.refl _ _).alloc (Nat.le_refl _) _
  have hG0 := h.more (.cells #[.pointer none, .slice none 0 0] 62)
  go_enter Tryd.func23, Tryd.ntmps23
  go_wp2
  obtain ⟨B, hB⟩ : ∃ B, B = w.heap.size := ⟨_, rfl⟩
  rw [← hB] at hI0 hB0 hlt ⊢
  have HB := Lib.hid hB
  clear hB h
  go_loopw [15] (fun i wr => ∃ (n : Nat) (acc : List UInt8), i = .int .i64 (n : Int) ∧ ((n = 0 ∧ acc = []) ∨ (n = 1 ∧ acc = [100, 101, 108, 105, 118, 101, 114, 32, 55] ++ [10])) ∧ Bd B B acc wr ∧ Bk wr g 37 delC.toArray ∧ Below B w wr)
    (fun i _ => 1 - ixOf i)
  case atStart => exact ⟨0, [], rfl, .inl ⟨rfl, rfl⟩, hI0, hG0, hB0⟩
  case round =>
    obtain ⟨n, acc, rfl, hn, hI, hG, hBl⟩ := hrel
    clear hI0 hG0 hB0
    have hlB := bd_lt hI
    rcases hn with ⟨rfl, rfl⟩ | ⟨rfl, rfl⟩
    · go_wp2_with ((with_reducible refine so4 [37, 1000 + 37] ?_ ?_); (focus rfl))
      (with_reducible refine ⟨?_⟩); (with_reducible refine at_any ?_ ?_); (focus go_simp); refine fun K0 hK => wp_ldp (C := delC) delC _ g 0 _ rfl rfl hG rfl Tryd.underlying37 rfl (by rw [sizeStep, delC_len]) (hK _ _ ?_)
      clear hK
      go_wp2_with ((with_reducible refine so4 [37, 1000 + 37] ?_ ?_); (focus rfl))
      have x0 := Ex.alloc wr (.cells Tryd.zeroCells37 37)
      (with_reducible refine ⟨?_⟩); (with_reducible refine at_any ?_ ?_); (focus go_simp); refine fun K0 hK => wp_stp (C := stepZ 0) delC _ _ wr.heap.size 0 rfl rfl rfl (step_new wr) (by decide) (by rw [sizeStep, delC_len]) delC_one (fun z1 hd ho => hK _ _ ?_)
      clear hK
      have P1 : Bk z1 wr.heap.size 37 delC.toArray := hd
      have X1 : Ex wr z1 := ho.below _ (Nat.le_refl _) _ x0
      clear hd ho x0
      go_wp2_with ((with_reducible refine so4 [37, 1000 + 37] ?_ ?_); (focus rfl))
      (with_reducible refine ⟨?_⟩); (with_reducible refine at_any ?_ ?_); (focus go_simp); refine fun K0 hK => wp_ldp (C := delC) delC _ wr.heap.size 0 _ rfl rfl P1 rfl Tryd.underlying37 rfl (by rw [sizeStep, delC_len]) (hK _ _ ?_)
      clear hK
      go_wp2_with (first
        | ((with_reducible refine so4 [37, 1000 + 37] ?_ ?_); (focus rfl))
        | (go_at_call 35; refine (write_del7 _).mono ?_; rintro e z2 ⟨rfl, X2⟩)
        | (go_at_call 32; refine (read_del7 _).mono ?_; rintro e z3 ⟨rfl, X3⟩))
      have X13 : Ex wr z3 := Ex.trans (Ex.trans X1 X2) X3
      have P3 := (P1.ext X2).ext X3
      have x0 := Ex.alloc z3 (.cells Tryd.zeroCells37 37)
      (with_reducible refine ⟨?_⟩); (with_reducible refine at_any ?_ ?_); (focus go_simp); refine fun K0 hK => wp_stp (C := stepZ 0) delC _ _ z3.heap.size 0 rfl rfl rfl (step_new z3) (by decide) (by rw [sizeStep, delC_len]) delC_one (fun z4 hd ho => hK _ _ ?_)
      clear hK
      have R4 : Bk z4 z3.heap.size 37 delC.toArray := hd
      have X4 : Ex z3 z4 := ho.below _ (Nat.le_refl _) _ x0
      have P4 := P3.ext X4
      have X14 := Ex.trans X13 X4
      clear hd ho x0 P1 P3 X1 X2 X3 X13 X4
      go_wp2_with ((with_reducible refine so4 [37, 1000 + 37] ?_ ?_); (focus rfl))
      (with_reducible refine ⟨?_⟩); (with_reducible refine at_any ?_ ?_); (focus go_simp); refine fun K0 hK => wp_ldp (C := delC) delC _ z3.heap.size 0 _ rfl rfl R4 rfl Tryd.underlying37 rfl (by rw [sizeStep, delC_len]) (hK _ _ ?_)
      clear hK
      go_wp2_with ((with_reducible refine so4 [37, 1000 + 37] ?_ ?_); (focus rfl))
      (with_reducible refine ⟨?_⟩); (with_reducible refine at_any ?_ ?_); (focus go_simp); refine fun K0 hK => wp_ldp (C := delC) delC _ wr.heap.size 0 _ rfl rfl P4 rfl Tryd.underlying37 rfl (by rw [sizeStep, delC_len]) (hK _ _ ?_)
      clear hK
      go_wp2_with (go_at_call 36; refine (same_del7 _).mono ?_; rintro e z5 ⟨rfl, X5⟩)
      have X15 := Ex.trans X14 X5
      have I5 := bd_ext hI X15
      have G5 := hG.ext X15
      have B5 := hBl.trans (X15.mono (by omega))
      have s5 := bd_lt I5
      go_wp2_with (first
        | (go_at_call 28; refine (ws_any B B _ _ _ I5 (by decide) (by omega)).mono ?_; rintro e z6 ⟨rfl, I6, b6, k6⟩; have s6 := b6.size)
        | (go_at_call 26; refine (wb_any B B _ 10 10 rfl _ I6 (by decide) (by omega)).mono ?_; rintro e z7 ⟨rfl, I7, b7, k7⟩))
      have G7 := (G5.under b6 hlt).under b7 hlt
      have B7 := (B5.trans b6).trans b7
      go_roundw
      case rel => exact ⟨1, _, rfl, .inr ⟨rfl, rfl⟩, I7, G7, B7⟩
      case measure => simp [ixOf]
    · go_wp2_with (go_at_call 29; refine (bs_any B B _ _ hI (by omega)).mono ?_; rintro e z8 ⟨rfl, _, b8, _⟩)
      go_ret2
      exact ⟨rfl, HB.out ▸ hBl.trans b8⟩
end Go.Proofs.YtgkmfhhoifbbbaaDoor
