/- known of chapter 21 -/
import Derived.Test.YtedljddjmojeeaaPf
import Derived.Lib.SlBytesConst
namespace Go.Proofs.Ytedljddjmojeeaa
open Go.RowKit
theorem lit_ptP (W : World) (l : List UInt8) (fr : Nat × Nat) : (Pt.mk (some ⟨W.heap.size, 0, none⟩) l.length l).In (W.alloc (.cells (Lib.byteCells l).toArray 5 fr)) (W.alloc (.cells (Lib.byteCells l).toArray 5 fr)).heap.size := by
  refine ⟨Nat.le_refl _, (fun h => by cases h), fun _ => ⟨W.heap.size, 0, rfl, by simp, fun i hi => ?_⟩⟩
  have h := heap_alloc_new W (.cells (Lib.byteCells l).toArray 5 fr)
  unfold World.cell?
  rw [show (⟨W.heap.size, 0 + i, none⟩ : Addr).block = W.heap.size from rfl, h]
  simp only at hi
  simp [Lib.byteCells, List.getD, hi]
theorem Bk.ft {w w' : World} {O g : Nat} {cs : Array Value} (h : Bk w g 70 cs) (k : FT O w w') : Bk w' g 70 cs := k.typ _ _ _ _ h (by decide) (by decide)
theorem LX.ft {w w' : World} {O g : Nat} {x : Lt} (h : LX w g 70 x) (k : FT O w w') : LX w' g 70 x := ⟨h.1, h.2.ft k⟩
theorem LX.far {w w' : World} {g k : Nat} {x : Lt} (h : LX w g 70 x) (ho : Only k w w') (hk : g ≠ k) : LX w' g 70 x := ⟨h.1, ho.bk h.2 hk⟩
def lt1 (g : Nat) : Lt := ⟨1, 0, 5, ⟨some ⟨g, 0, none⟩, 1, [120]⟩⟩
def lc1 : Lc := ⟨1, 0, 5, [120]⟩
theorem lt1_ok (g : Nat) : (lt1 g).Ok := by constructor <;> simp [lt1]
theorem lt1_built (g : Nat) : Try.prog.built 70 [(0, .int .i64 1), (2, .int .i64 5), (3, .slice (some ⟨g, 0, none⟩) 1 1)] = some (lt1 g).C.toArray := by kernel_rfl
theorem lt1_put (O g : Nat) (w : World) (h : OF w O []) (hb : (lt1 g).bs.In w w.heap.size) : Calls Try.prog 31 #[.pointer (some ⟨O, 0, none⟩), (lt1 g).V] w (WPost O [(false, lc1)] true w) :=
  put_any O [] (lt1 g) w h (lt1_ok g) hb (by show 1 ≤ 1000000; decide)
theorem first_held (x : Lc) : firstO [(true, x)] = -1 := by rfl
theorem x_str : strL [120] = ⟨#[120]⟩ := rfl
set_option maxHeartbeats 4000000 in
set_option maxRecDepth 100000 in
theorem known21 (w : World) : Calls Try.prog 32 #[] w fun e w' => e = .returned (.bool true) ∧ Ex w w' := by
  have hcv := fun (w : World) (C : Array Value) (n c : Nat) => Lib.run_convert_bytes_const (P := Try.prog) w 28 5 C n c Try.underlying28 Try.underlying5
  go_enter Try.func32, Try.ntmps32
  go_wp2_with (first | (with_reducible refine stop_load (t := 70) ?_) | (with_reducible refine stop_store (t := 70) ?_) | (with_reducible refine stop_build (t := 70) ?_))
  refine (pnew_any w).mono ?_
  rintro e w1 ⟨O, rfl, hO, hof, xx⟩
  have HO := Lib.hid hO
  have BW := Lib.hid xx
  have H := Lib.hid hof
  clear hO hof xx
  have I0 : Hid (Pt.In ⟨some ⟨w1.heap.size, 0, none⟩, 1, [120]⟩ (w1.alloc (.cells #[.int .u8 120] 5 (1, 2))) (w1.alloc (.cells #[.int .u8 120] 5 (1, 2))).heap.size) := Lib.hid (lit_ptP w1 [120] (1, 2))
  have xx : Ex w1 (w1.alloc (.cells #[.int .u8 120] 5 (1, 2))) := Ex.alloc w1 _
  replace BW := Lib.hid (Ex.trans BW.out xx)
  replace H := Lib.hid (H.out.ext xx)
  clear xx
  go_wp2_with (first | (with_reducible refine stop_load (t := 70) ?_) | (with_reducible refine stop_store (t := 70) ?_) | (with_reducible refine stop_build (t := 70) ?_))
  (with_reducible refine ⟨?_⟩)
  change wpList _ _ _ _ _ (w1.alloc (.cells #[.int .u8 120] 5 (1, 2)))
  obtain ⟨g, hg⟩ : ∃ g, g = w1.heap.size := ⟨_, rfl⟩
  generalize hw1 : (w1.alloc (.cells #[.int .u8 120] 5 (1, 2))) = w2 at *
  clear hw1 hcv
  rw [← hg] at I0 ⊢
  clear hg
  go_wp2_with (first | (with_reducible refine stop_load (t := 70) ?_) | (with_reducible refine stop_store (t := 70) ?_) | (with_reducible refine stop_build (t := 70) ?_))
  (with_reducible refine ⟨?_⟩); (with_reducible refine at_any ?_ ?_); (focus go_simp); refine fun K0 hK => wp_build _ _ rfl _ (lt1_built g) (hK _ _ ?_)
  clear hK
  go_wp2_with (first | (with_reducible refine stop_load (t := 70) ?_) | (with_reducible refine stop_store (t := 70) ?_) | (with_reducible refine stop_build (t := 70) ?_))
  refine (lt1_put O g w2 H.out I0.out).mono ?_
  rintro e w3 ⟨rfl, hof, hft⟩
  replace BW := Lib.hid (Below.trans BW.out (hft.below.mono HO.out))
  replace H := Lib.hid hof
  clear hof hft I0
  go_wp2_with (first | (with_reducible refine stop_load (t := 70) ?_) | (with_reducible refine stop_store (t := 70) ?_) | (with_reducible refine stop_build (t := 70) ?_))
  refine (hold_yes O [(false, lc1)] 0 lc1 w3 H.out rfl).mono ?_
  rintro e w4 ⟨rfl, hof, hft⟩
  replace BW := Lib.hid (Below.trans BW.out (hft.below.mono HO.out))
  replace H := Lib.hid hof
  clear hof hft
  go_wp2_with (first | (with_reducible refine stop_load (t := 70) ?_) | (with_reducible refine stop_store (t := 70) ?_) | (with_reducible refine stop_build (t := 70) ?_))
  refine (hold_held O [(true, lc1)] 0 lc1 w4 H.out rfl).mono ?_
  rintro e w5 ⟨rfl, hof, hft⟩
  replace BW := Lib.hid (Below.trans BW.out (hft.below.mono HO.out))
  replace H := Lib.hid hof
  clear hof hft
  go_wp2_with (first | (with_reducible refine stop_load (t := 70) ?_) | (with_reducible refine stop_store (t := 70) ?_) | (with_reducible refine stop_build (t := 70) ?_))
  refine (take_held O [(true, lc1)] 0 lc1 w5 H.out rfl).mono ?_
  rintro e w6 ⟨x1, rfl, _, hln, hof, hft⟩
  replace BW := Lib.hid (Below.trans BW.out (hft.below.mono HO.out))
  replace H := Lib.hid hof
  clear hof hft
  have L1 := Lib.hid hln
  clear hln
  go_wp2_with (first | (with_reducible refine stop_load (t := 70) ?_) | (with_reducible refine stop_store (t := 70) ?_) | (with_reducible refine stop_build (t := 70) ?_))
  (with_reducible refine ⟨?_⟩); (with_reducible refine at_any ?_ ?_); (focus go_simp); refine fun K0 hK => st_lx _ _ w6.heap.size 70 Try.sizeLt x1 rfl rfl rfl L1.out.1 (Bk.new rfl _ _) (by rfl) (fun w7 hd ho => hK _ _ ?_)
  clear hK
  have xx : Ex w6 w7 := ho.below w6.heap.size (Nat.le_refl _) w6 (Ex.alloc w6 _)
  replace BW := Lib.hid (Ex.trans BW.out xx)
  replace H := Lib.hid (H.out.ext xx)
  clear xx
  obtain ⟨g1, hg⟩ : ∃ g, g = w6.heap.size := ⟨_, rfl⟩
  rw [← hg] at hd ⊢
  have G1 := Lib.hid hd
  clear hg hd ho
  go_wp2_with (first | (with_reducible refine stop_load (t := 70) ?_) | (with_reducible refine stop_store (t := 70) ?_) | (with_reducible refine stop_build (t := 70) ?_))
  refine (at_yes O [(true, lc1)] 0 true lc1 w7 H.out rfl).mono ?_
  rintro e w8 ⟨x2, rfl, hc2, hln, xx⟩
  have L2 := Lib.hid hln
  have C2 := Lib.hid hc2
  clear hln hc2
  replace BW := Lib.hid (Ex.trans BW.out xx)
  replace H := Lib.hid (H.out.ext xx)
  replace G1 := Lib.hid (G1.out.ext xx)
  clear xx
  go_wp2_with (first | (with_reducible refine stop_load (t := 70) ?_) | (with_reducible refine stop_store (t := 70) ?_) | (with_reducible refine stop_build (t := 70) ?_))
  (with_reducible refine ⟨?_⟩); (with_reducible refine at_any ?_ ?_); (focus go_simp); refine fun K0 hK => st_lx _ _ w8.heap.size 70 Try.sizeLt x2 rfl rfl rfl L2.out.1 (Bk.new rfl _ _) (by rfl) (fun w9 hd ho => hK _ _ ?_)
  clear hK
  have xx : Ex w8 w9 := ho.below w8.heap.size (Nat.le_refl _) w8 (Ex.alloc w8 _)
  replace BW := Lib.hid (Ex.trans BW.out xx)
  replace H := Lib.hid (H.out.ext xx)
  replace G1 := Lib.hid (G1.out.ext xx)
  clear xx
  obtain ⟨g2, hg⟩ : ∃ g, g = w8.heap.size := ⟨_, rfl⟩
  rw [← hg] at hd ⊢
  have G2 := Lib.hid hd
  clear hg hd ho
  go_wp2_with (first | (with_reducible refine stop_load (t := 70) ?_) | (with_reducible refine stop_store (t := 70) ?_) | (with_reducible refine stop_build (t := 70) ?_))
  refine (first_any O [(true, lc1)] w9 H.out).mono ?_
  rintro e w10 ⟨rfl, xx⟩
  replace BW := Lib.hid (Ex.trans BW.out xx)
  replace H := Lib.hid (H.out.ext xx)
  replace G1 := Lib.hid (G1.out.ext xx)
  replace G2 := Lib.hid (G2.out.ext xx)
  clear xx
  rw [first_held]
  go_wp2_with (first | (with_reducible refine stop_load (t := 70) ?_) | (with_reducible refine stop_store (t := 70) ?_) | (with_reducible refine stop_build (t := 70) ?_))
  refine (free_yes O [(true, lc1)] 0 lc1 w10 H.out rfl).mono ?_
  rintro e w11 ⟨rfl, hof, hft⟩
  replace BW := Lib.hid (Below.trans BW.out (hft.below.mono HO.out))
  replace H := Lib.hid hof
  replace G1 := Lib.hid (G1.out.ft hft)
  replace G2 := Lib.hid (G2.out.ft hft)
  clear hof hft
  go_wp2_with (first | (with_reducible refine stop_load (t := 70) ?_) | (with_reducible refine stop_store (t := 70) ?_) | (with_reducible refine stop_build (t := 70) ?_))
  refine (take_yes O [(false, lc1)] 0 lc1 w11 H.out rfl).mono ?_
  rintro e w12 ⟨x3, rfl, hc3, hln, hof, hft⟩
  replace BW := Lib.hid (Below.trans BW.out (hft.below.mono HO.out))
  replace H := Lib.hid hof
  replace G1 := Lib.hid (G1.out.ft hft)
  replace G2 := Lib.hid (G2.out.ft hft)
  clear hof hft
  have L3 := Lib.hid hln
  have C3 := Lib.hid hc3
  clear hln hc3
  go_wp2_with (first | (with_reducible refine stop_load (t := 70) ?_) | (with_reducible refine stop_store (t := 70) ?_) | (with_reducible refine stop_build (t := 70) ?_))
  (with_reducible refine ⟨?_⟩); (with_reducible refine at_any ?_ ?_); (focus go_simp); refine fun K0 hK => st_lx _ _ w12.heap.size 70 Try.sizeLt x3 rfl rfl rfl L3.out.1 (Bk.new rfl _ _) (by rfl) (fun w13 hd ho => hK _ _ ?_)
  clear hK
  have xx : Ex w12 w13 := ho.below w12.heap.size (Nat.le_refl _) w12 (Ex.alloc w12 _)
  replace L3 := Lib.hid (L3.out.ext xx)
  replace BW := Lib.hid (Ex.trans BW.out xx)
  replace H := Lib.hid (H.out.ext xx)
  replace G1 := Lib.hid (G1.out.ext xx)
  replace G2 := Lib.hid (G2.out.ext xx)
  clear xx
  obtain ⟨g3, hg⟩ : ∃ g, g = w12.heap.size := ⟨_, rfl⟩
  rw [← hg] at hd ⊢
  have G3 := Lib.hid hd
  clear hg hd ho
  obtain ⟨_, _, b2, _⟩ := LB.cells G2.out
  obtain ⟨_, _, c2, c3⟩ := LB.cells G3.out
  rw [show x2.to = 5 from congrArg (·.to) C2.out] at b2
  rw [show x3.to = 5 from congrArg (·.to) C3.out] at c2
  have hx3 : x3.bs.l = [120] := congrArg (·.by_) C3.out
  have hcv := pt_conv x3.bs w13 L3.out.2.1
  unfold Pt.V at c3
  rw [hx3] at c3 hcv
  rw [x_str] at hcv
  simp only [List.length_cons, List.length_nil, Nat.zero_add] at c3 hcv
  clear hx3
  go_wp2_with (first | (with_reducible refine stop_load (t := 70) ?_) | (with_reducible refine stop_store (t := 70) ?_) | (with_reducible refine stop_build (t := 70) ?_))
  refine (lenO_any O [] w13 H.out).mono ?_
  rintro e w14 ⟨rfl, hw⟩
  rw [hw] at BW
  clear hw H
  go_wp2_with fail
  go_ret
  exact ⟨rfl, BW.out⟩
end Go.Proofs.Ytedljddjmojeeaa
