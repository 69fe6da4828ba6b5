/- hundred; Behind; known -/
import Derived.Test.YtlebanghcbkejaaRgC
namespace Go.Proofs.Ytlebanghcbkejaa
open Go.RowKit
set_option maxHeartbeats 1000000 in
set_option maxRecDepth 100000 in
theorem behind_one (r s : Rg) (ok : r.Ok) (ok' : s.Ok) (w : World) :
    Calls Try.prog 17 #[r.V, s.V] w fun e w' => e = .returned (.bool (decide (r.b < s.b) || decide (r.c < s.c))) ∧ Below w.heap.size w w' := by
  obtain ⟨b0, c0, a0, l16⟩ := ok
  obtain ⟨b1, c1, a1, m16⟩ := ok'
  obtain ⟨cs, hcs⟩ : ∃ cs, cs = r.C.toArray := ⟨_, rfl⟩
  have hv : r.V = .agg cs := by rw [hcs]; rfl
  obtain ⟨ds, hds⟩ : ∃ cs, cs = s.C.toArray := ⟨_, rfl⟩
  have hv' : s.V = .agg ds := by rw [hds]; rfl
  have d0 : cs[0]? = some (.int .u64 r.b) := by rw [hcs]; simpa using r.at0
  have d1 : cs[1]? = some (.int .u64 r.c) := by rw [hcs]; simpa using r.at1
  have e0 : ds[0]? = some (.int .u64 s.b) := by rw [hds]; simpa using s.at0
  have e1 : ds[1]? = some (.int .u64 s.c) := by rw [hds]; simpa using s.at1
  have bw : Below w.heap.size w ((w.alloc (.cells cs 27)).alloc (.cells ds 27)) := (((Below.refl _ _).alloc (Nat.le_refl _) _).alloc (by simp) _)
  have R : Bk ((w.alloc (.cells cs 27)).alloc (.cells ds 27)) w.heap.size 27 cs := (Bk.new rfl _ _).more _
  have S : Bk ((w.alloc (.cells cs 27)).alloc (.cells ds 27)) (w.heap.size + 1) 27 ds := Bk.new (by simp) _ _
  have f0 := (R.cell 0).trans d0
  have f1 := (R.cell 1).trans d1
  have g0 := (S.cell 0).trans e0
  have g1 := (S.cell 1).trans e1
  rw [hv, hv']
  have BW := Lib.hid bw
  clear hv hv' hcs hds R S bw
  by_cases h : r.b < s.b
  · go_enter Try.func17, Try.ntmps17
    go_wp2_with fail
    go_ret
    exact ⟨by simp [h], BW.out⟩
  · have h' : s.b ≤ r.b := by omega
    go_enter Try.func17, Try.ntmps17
    go_wp2_with fail
    go_ret
    exact ⟨by simp [h]; intro hh; omega, BW.out⟩
theorem hundred_any (n : Int) (h : -9223372036854775808 ≤ n ∧ n ≤ 9223372036854775807) (w : World) :
    Calls Try.prog 19 #[.int .i64 n] w fun e w' => (∃ k : Nat, e = .returned (.int .i64 (k : Int)) ∧ k < 100) ∧ w' = w := by
  obtain ⟨x, hx⟩ : ∃ x, x = n.tmod 100 := ⟨_, rfl⟩
  have x1 : -100 < x := by rw [hx]; have := Int.tmod_lt_of_pos n (show (0:Int) < 100 by omega); have := Int.lt_tmod_of_pos n (show (0:Int) < 100 by omega); omega
  have x2 : x < 100 := by rw [hx]; exact Int.tmod_lt_of_pos n (by omega)
  obtain ⟨y, hy⟩ : ∃ y, y = (x + 100).tmod 100 := ⟨_, rfl⟩
  have y1 : 0 ≤ y := by rw [hy, Int.tmod_eq_emod_of_nonneg (by omega)]; omega
  have y2 : y < 100 := by rw [hy]; exact Int.tmod_lt_of_pos _ (by omega)
  obtain ⟨h1, h2⟩ := h
  have z1 : -100 < n.tmod 100 := by omega
  have z2 : n.tmod 100 < 100 := by omega
  have z3 : 0 ≤ (n.tmod 100 + 100).tmod 100 := by rw [← hx, ← hy]; exact y1
  have z4 : (n.tmod 100 + 100).tmod 100 < 100 := by rw [← hx, ← hy]; exact y2
  have HX := Lib.hid hx
  have HY := Lib.hid hy
  clear hx hy
  go_enter Try.func19, Try.ntmps19
  go_wp2_with fail
  go_ret
  refine ⟨⟨y.toNat, ret_eq (congrArg (Value.int .i64) ?_), by omega⟩, rfl⟩
  have e1 := HY.out
  have e2 := HX.out
  rw [Int.tmod_eq_emod_of_nonneg (by omega)] at e1
  first | omega | (rw [← e2]; omega) | (trace_state; fail)
def dg (b : UInt8) : List UInt8 := [b, 0, 0, 0, 0, 0, 0, 0, 0, 0, 0, 0, 0, 0, 0, 0]
def K1 : Rg := ⟨0, 1, 0, dg 1, 0⟩
def F1 : Rg := ⟨0, 1, 1, dg 2, 1⟩
theorem okz : zeroRg.Ok := ⟨by decide, by decide, by decide, rfl⟩
theorem okK : K1.Ok := ⟨by decide, by decide, by decide, rfl⟩
theorem okF : F1.Ok := ⟨by decide, by decide, by decide, rfl⟩
theorem known_next (w : World) : Calls Try.prog 13 #[zeroRg.V, digV (dg 1)] w fun e w' => e = .returned (.tuple #[K1.V, .bool true]) ∧ Below w.heap.size w w' :=
  (next_one zeroRg okz (dg 1) rfl (by decide) w).mono (fun e w' h => ⟨h.1.trans (by
    have a : zeroRg.right = true := by decide
    have b : (zeroRg.next (dg 1)).right = true := by decide
    unfold keptV; rw [a, b]; rfl), h.2⟩)
theorem known_fold (w : World) : Calls Try.prog 15 #[K1.V, digV (dg 2)] w fun e w' => e = .returned (.tuple #[F1.V, .bool true]) ∧ Below w.heap.size w w' :=
  (fold_one K1 okK (dg 2) rfl (by decide) (by decide) (by decide) w).mono (fun e w' h => ⟨h.1.trans (by
    have a : K1.right = true := by decide
    have b : (K1.fold (dg 2)).right = true := by decide
    unfold foldV; rw [if_neg (by decide)]; unfold keptV; rw [a, b]; rfl), h.2⟩)
theorem known_no (w : World) : Calls Try.prog 15 #[F1.V, digV (dg 3)] w fun e w' => e = .returned (.tuple #[zeroRg.V, .bool false]) ∧ Below w.heap.size w w' :=
  (fold_one F1 okF (dg 3) rfl (by decide) (by decide) (by decide) w).mono (fun e w' h => ⟨h.1.trans (by
    unfold foldV; rw [if_pos (by decide)]), h.2⟩)
theorem known_held (w : World) : Calls Try.prog 16 #[K1.V] w fun e w' => e = .returned (.int .i64 1) ∧ Below w.heap.size w w' :=
  (held_one K1 okK w).mono (fun e w' h => ⟨h.1.trans (by rw [show K1.held = 1 by decide]), h.2⟩)
theorem known_held0 (w : World) : Calls Try.prog 16 #[F1.V] w fun e w' => e = .returned (.int .i64 0) ∧ Below w.heap.size w w' :=
  (held_one F1 okF w).mono (fun e w' h => ⟨h.1.trans (by rw [show F1.held = 0 by decide]), h.2⟩)
theorem known_behind (w : World) : Calls Try.prog 17 #[zeroRg.V, K1.V] w fun e w' => e = .returned (.bool true) ∧ Below w.heap.size w w' :=
  (behind_one zeroRg K1 okz okK w).mono (fun e w' h => ⟨h.1.trans (by
    have : (decide (zeroRg.b < K1.b) || decide (zeroRg.c < K1.c)) = true := by decide
    rw [this]), h.2⟩)
theorem Only.ex {w1 w2 : World} {o : Obj} (ho : Only w1.heap.size (w1.alloc o) w2) : Ex w1 w2 := ho.below _ (Nat.le_refl _) _ ((Below.refl _ _).alloc (Nat.le_refl _) _)
set_option maxHeartbeats 2000000 in
set_option maxRecDepth 100000 in
theorem known_any (w : World) : Calls Try.prog 12 #[] w fun e w' => e = .returned (.bool true) ∧ Below w.heap.size w w' := by
  go_enter Try.func12, Try.ntmps12
  go_wp2_with (first | (with_reducible refine stop_load25 ?_) | (with_reducible refine stop_store25 ?_) | (with_reducible refine stop_load27 ?_) | (with_reducible refine stop_store27 ?_))
  refine (known_next _).mono ?_
  rintro e w1 ⟨rfl, x1⟩
  go_wp2_with (first | (with_reducible refine stop_load25 ?_) | (with_reducible refine stop_store25 ?_) | (with_reducible refine stop_load27 ?_) | (with_reducible refine stop_store27 ?_))
  (with_reducible refine ⟨?_⟩); (with_reducible refine at_any ?_ ?_); (focus go_simp); refine fun K hK => wp_str _ _ w1.heap.size K1 rfl rfl rfl rfl (Bk.new rfl _ _) rfl (fun w2 hd ho => hK _ _ ?_)
  have x2 : Below w.heap.size w w2 := x1.trans (ho.ex.mono x1.size)
  generalize w1.heap.size = g1 at hd ⊢
  have A1 := Lib.hid hd
  clear hK ho hd x1
  go_wp2_with (first | (with_reducible refine stop_load25 ?_) | (with_reducible refine stop_store25 ?_) | (with_reducible refine stop_load27 ?_) | (with_reducible refine stop_store27 ?_))
  (with_reducible refine ⟨?_⟩); (with_reducible refine at_any ?_ ?_); (focus go_simp); refine fun K hK => wp_ldr _ _ K1 rfl rfl A1.out (hK _ _ ?_)
  clear hK
  go_wp2_with (first | (with_reducible refine stop_load25 ?_) | (with_reducible refine stop_store25 ?_) | (with_reducible refine stop_load27 ?_) | (with_reducible refine stop_store27 ?_))
  refine (known_fold _).mono ?_
  rintro e w3 ⟨rfl, x3⟩
  go_wp2_with (first | (with_reducible refine stop_load25 ?_) | (with_reducible refine stop_store25 ?_) | (with_reducible refine stop_load27 ?_) | (with_reducible refine stop_store27 ?_))
  (with_reducible refine ⟨?_⟩); (with_reducible refine at_any ?_ ?_); (focus go_simp); refine fun K hK => wp_str _ _ w3.heap.size F1 rfl rfl rfl rfl (Bk.new rfl _ _) rfl (fun w4 hd ho => hK _ _ ?_)
  have x24 := Ex.trans x3 ho.ex
  have x4 : Below w.heap.size w w4 := x2.trans (x24.mono x2.size)
  replace A1 := Lib.hid (A1.out.ext x24)
  generalize w3.heap.size = g2 at hd ⊢
  have A2 := Lib.hid hd
  clear hK ho hd x3 x24 x2
  go_wp2_with (first | (with_reducible refine stop_load25 ?_) | (with_reducible refine stop_store25 ?_) | (with_reducible refine stop_load27 ?_) | (with_reducible refine stop_store27 ?_))
  (with_reducible refine ⟨?_⟩); (with_reducible refine at_any ?_ ?_); (focus go_simp); refine fun K hK => wp_ldr _ _ F1 rfl rfl A2.out (hK _ _ ?_)
  clear hK
  go_wp2_with (first | (with_reducible refine stop_load25 ?_) | (with_reducible refine stop_store25 ?_) | (with_reducible refine stop_load27 ?_) | (with_reducible refine stop_store27 ?_))
  refine (known_no _).mono ?_
  rintro e w5 ⟨rfl, x5⟩
  go_wp2_with (first | (with_reducible refine stop_load25 ?_) | (with_reducible refine stop_store25 ?_) | (with_reducible refine stop_load27 ?_) | (with_reducible refine stop_store27 ?_))
  (with_reducible refine ⟨?_⟩); (with_reducible refine at_any ?_ ?_); (focus go_simp); refine fun K hK => wp_str _ _ w5.heap.size zeroRg rfl rfl rfl rfl (Bk.new rfl _ _) rfl (fun w6 hd ho => hK _ _ ?_)
  have x46 := Ex.trans x5 ho.ex
  have x6 : Below w.heap.size w w6 := x4.trans (x46.mono x4.size)
  replace A1 := Lib.hid (A1.out.ext x46)
  replace A2 := Lib.hid (A2.out.ext x46)
  generalize w5.heap.size = g3 at hd ⊢
  clear hK ho hd x5 x46 x4
  have f1 : w6.cell? ⟨g1, 1, none⟩ = some (.int .u64 1) := A1.out.2.cell 1
  go_wp2_with (first | (with_reducible refine stop_load25 ?_) | (with_reducible refine stop_store25 ?_) | (with_reducible refine stop_load27 ?_) | (with_reducible refine stop_store27 ?_))
  (with_reducible refine ⟨?_⟩); (with_reducible refine at_any ?_ ?_); (focus go_simp); refine fun K hK => wp_ldr _ _ K1 rfl rfl A1.out (hK _ _ ?_)
  clear hK
  go_wp2_with (first | (with_reducible refine stop_load25 ?_) | (with_reducible refine stop_store25 ?_) | (with_reducible refine stop_load27 ?_) | (with_reducible refine stop_store27 ?_))
  refine (known_held _).mono ?_
  rintro e w7 ⟨rfl, x7⟩
  have x7' : Below w.heap.size w w7 := x6.trans (x7.mono x6.size)
  replace A1 := Lib.hid (A1.out.ext x7)
  replace A2 := Lib.hid (A2.out.ext x7)
  clear x7 x6 f1
  have f2 : w7.cell? ⟨g2, 2, none⟩ = some (.int .u64 1) := A2.out.2.cell 2
  have f3 : w7.cell? ⟨g2, 19, none⟩ = some (.int .i64 1) := A2.out.2.cell 19
  go_wp2_with (first | (with_reducible refine stop_load25 ?_) | (with_reducible refine stop_store25 ?_) | (with_reducible refine stop_load27 ?_) | (with_reducible refine stop_store27 ?_))
  (with_reducible refine ⟨?_⟩); (with_reducible refine at_any ?_ ?_); (focus go_simp); refine fun K hK => wp_ldr _ _ F1 rfl rfl A2.out (hK _ _ ?_)
  clear hK
  go_wp2_with (first | (with_reducible refine stop_load25 ?_) | (with_reducible refine stop_store25 ?_) | (with_reducible refine stop_load27 ?_) | (with_reducible refine stop_store27 ?_))
  refine (known_held0 _).mono ?_
  rintro e w8 ⟨rfl, x8⟩
  have x8' : Below w.heap.size w w8 := x7'.trans (x8.mono x7'.size)
  replace A1 := Lib.hid (A1.out.ext x8)
  clear x8 x7' f2 f3 A2
  go_wp2_with (first | (with_reducible refine stop_load25 ?_) | (with_reducible refine stop_store25 ?_) | (with_reducible refine stop_load27 ?_) | (with_reducible refine stop_store27 ?_))
  (with_reducible refine ⟨?_⟩); (with_reducible refine at_any ?_ ?_); (focus go_simp); refine fun K hK => wp_ldr _ _ K1 rfl rfl A1.out (hK _ _ ?_)
  clear hK
  go_wp2_with (first | (with_reducible refine stop_load25 ?_) | (with_reducible refine stop_store25 ?_) | (with_reducible refine stop_load27 ?_) | (with_reducible refine stop_store27 ?_))
  refine (known_behind _).mono ?_
  rintro e w9 ⟨rfl, x9⟩
  have x9' : Below w.heap.size w w9 := x8'.trans (x9.mono x8'.size)
  go_wp2_with (first | (with_reducible refine stop_load25 ?_) | (with_reducible refine stop_store25 ?_) | (with_reducible refine stop_load27 ?_) | (with_reducible refine stop_store27 ?_))
  go_ret
  exact ⟨rfl, x9'⟩
end Go.Proofs.Ytlebanghcbkejaa
