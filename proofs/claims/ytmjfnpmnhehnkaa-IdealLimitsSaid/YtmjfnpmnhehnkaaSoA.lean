/- walks: shard.Of of both -/
import Derived.Test.YtmjfnpmnhehnkaaSmI
namespace Go.Proofs.Ytmjfnpmnhehnkaa.Sm
open Go.RowKit
theorem cons_of (n : Nat) (l : List UInt8) (h : l.length = n + 1) : ∃ x m, l = x :: m ∧ m.length = n := by
  cases l with
  | nil => cases h
  | cons x m => exact ⟨x, m, rfl, by simpa using h⟩
theorem len16 (l : List UInt8) (h : l.length = 16) : ∃ x0 x1 x2 x3 x4 x5 x6 x7 x8 x9 x10 x11 x12 x13 x14 x15 : UInt8, l = [x0, x1, x2, x3, x4, x5, x6, x7, x8, x9, x10, x11, x12, x13, x14, x15] := by
  obtain ⟨x0, l0, rfl, h0⟩ := cons_of 15 l h
  obtain ⟨x1, l1, rfl, h1⟩ := cons_of 14 l0 h0
  obtain ⟨x2, l2, rfl, h2⟩ := cons_of 13 l1 h1
  obtain ⟨x3, l3, rfl, h3⟩ := cons_of 12 l2 h2
  obtain ⟨x4, l4, rfl, h4⟩ := cons_of 11 l3 h3
  obtain ⟨x5, l5, rfl, h5⟩ := cons_of 10 l4 h4
  obtain ⟨x6, l6, rfl, h6⟩ := cons_of 9 l5 h5
  obtain ⟨x7, l7, rfl, h7⟩ := cons_of 8 l6 h6
  obtain ⟨x8, l8, rfl, h8⟩ := cons_of 7 l7 h7
  obtain ⟨x9, l9, rfl, h9⟩ := cons_of 6 l8 h8
  obtain ⟨x10, l10, rfl, h10⟩ := cons_of 5 l9 h9
  obtain ⟨x11, l11, rfl, h11⟩ := cons_of 4 l10 h10
  obtain ⟨x12, l12, rfl, h12⟩ := cons_of 3 l11 h11
  obtain ⟨x13, l13, rfl, h13⟩ := cons_of 2 l12 h12
  obtain ⟨x14, l14, rfl, h14⟩ := cons_of 1 l13 h13
  obtain ⟨x15, l15, rfl, h15⟩ := cons_of 0 l14 h14
  obtain rfl : l15 = [] := List.eq_nil_of_length_eq_zero h15
  exact ⟨_, _, _, _, _, _, _, _, _, _, _, _, _, _, _, _, rfl⟩
theorem digV_lit (x0 x1 x2 x3 x4 x5 x6 x7 x8 x9 x10 x11 x12 x13 x14 x15 : UInt8) : digV [x0, x1, x2, x3, x4, x5, x6, x7, x8, x9, x10, x11, x12, x13, x14, x15] = .agg #[.int .u8 x0.toNat, .int .u8 x1.toNat, .int .u8 x2.toNat, .int .u8 x3.toNat, .int .u8 x4.toNat, .int .u8 x5.toNat, .int .u8 x6.toNat, .int .u8 x7.toNat, .int .u8 x8.toNat, .int .u8 x9.toNat, .int .u8 x10.toNat, .int .u8 x11.toNat, .int .u8 x12.toNat, .int .u8 x13.toNat, .int .u8 x14.toNat, .int .u8 x15.toNat] := rfl
def shV (l : List UInt8) : Int := (((sumL l).getD 0 0).toNat : Int) % 16
theorem and15 (x : UInt8) : bits .and .u8 (x.toNat : Int) 15 = (x.toNat : Int) % 16 := by
  have := x.toNat_lt
  rw [u8_and _ _ (by omega) (by omega) (by omega) (by omega)]
  have e : ((15 : Int).toNat) = 15 := rfl
  rw [e, nat_mask4]; simp
theorem sumL_len (l : List UInt8) : (sumL l).length = 16 := rfl
set_option maxHeartbeats 4000000 in
set_option maxRecDepth 100000 in
theorem of_any (l : List UInt8) (hl : l.length = 4) (w : World) :
    Calls Try.prog 59 #[digV l] w fun e w' => e = .returned (.int .i64 (shV l)) ∧ Below w.heap.size w w' := by
  obtain ⟨cs, hcs⟩ : ∃ cs, cs = Lib.byteCells l := ⟨_, rfl⟩
  have hcl : cs.toArray.size = 4 := by rw [hcs]; simp [Lib.byteCells, hl]
  have hv : digV l = .agg cs.toArray := by rw [hcs]; rfl
  have G := sum_core l (some ⟨w.heap.size, 0, none⟩) w.heap.size 0 4 (by omega) (by omega) (w.alloc (.cells cs.toArray 32)) (fun _ => rfl) (by simp) (fun i hi => by
    have h := (Bk.new (w := w) rfl 32 cs.toArray).cell (0 + i)
    rw [h, Nat.zero_add, hcs]
    simp [Lib.byteCells, hi])
  rw [hl] at G
  obtain ⟨x0, x1, x2, x3, x4, x5, x6, x7, x8, x9, x10, x11, x12, x13, x14, x15, hx⟩ := len16 (sumL l) (sumL_len l)
  have hs : shV l = (x0.toNat : Int) % 16 := by unfold shV; rw [hx]; rfl
  rw [hx, digV_lit] at G
  have HS := Lib.hid hs
  have G := Lib.hid G
  rw [hv]
  clear hx hs hv hcs hl
  go_enter Try.func59, Try.ntmps59
  go_wp2_with fail
  refine G.out.mono ?_
  rintro e w1 ⟨rfl, b1⟩
  clear G
  have bw := ((Below.refl w.heap.size w).alloc (Nat.le_refl _) (.cells cs.toArray 32)).trans (b1.mono (by simp))
  have hz := bw.size
  go_wp2_with fail
  go_ret
  exact ⟨smret (congrArg (Value.int .i64) (by rw [and15 x0, IntWalk.wrap64_in _ ⟨by omega, by omega⟩]; exact HS.out.symm)), bw.alloc hz _⟩
set_option maxHeartbeats 4000000 in
set_option maxRecDepth 100000 in
theorem rof_any (l : List UInt8) (hl : l.length = 4) (w : World) :
    Calls Try.prog 33 #[digV l] w fun e w' => e = .returned (.int .i64 (shV l)) ∧ Below w.heap.size w w' := by
  obtain ⟨cs, hcs⟩ : ∃ cs, cs = Lib.byteCells l := ⟨_, rfl⟩
  have hcl : cs.toArray.size = 4 := by rw [hcs]; simp [Lib.byteCells, hl]
  have hv : digV l = .agg cs.toArray := by rw [hcs]; rfl
  have G := rsum_core l (some ⟨w.heap.size, 0, none⟩) w.heap.size 0 4 (by omega) (fun h => by cases h) (by omega) (w.alloc (.cells cs.toArray 32)) (fun _ => rfl) (by simp) (fun i hi => by
    have h := (Bk.new (w := w) rfl 32 cs.toArray).cell (0 + i)
    rw [h, Nat.zero_add, hcs]
    simp [Lib.byteCells, hi])
  rw [hl] at G
  obtain ⟨x0, x1, x2, x3, x4, x5, x6, x7, x8, x9, x10, x11, x12, x13, x14, x15, hx⟩ := len16 (sumL l) (sumL_len l)
  have hs : shV l = (x0.toNat : Int) % 16 := by unfold shV; rw [hx]; rfl
  rw [hx, digV_lit] at G
  have HS := Lib.hid hs
  have G := Lib.hid G
  rw [hv]
  clear hx hs hv hcs hl
  go_enter Try.func33, Try.ntmps33
  go_wp2_with fail
  refine G.out.mono ?_
  rintro e w1 ⟨rfl, b1⟩
  clear G
  have bw := ((Below.refl w.heap.size w).alloc (Nat.le_refl _) (.cells cs.toArray 32)).trans (b1.mono (by simp))
  have hz := bw.size
  go_wp2_with fail
  go_ret
  exact ⟨smret (congrArg (Value.int .i64) HS.out.symm), bw.alloc hz _⟩
end Go.Proofs.Ytmjfnpmnhehnkaa.Sm
