/- walks: slices.Reverse of eight bytes; Number of both -/
import Derived.Test.YtgoiidpcdifojaaSmI
namespace Go.Proofs.Ytgoiidpcdifojaa.Sm
open Go.RowKit
set_option maxHeartbeats 4000000 in
set_option maxRecDepth 100000 in
theorem rev8 (B : Nat) (x0 x1 x2 x3 x4 x5 x6 x7 : Int) (w : World) (hB : Bk w B 5 #[.int .u8 x0, .int .u8 x1, .int .u8 x2, .int .u8 x3, .int .u8 x4, .int .u8 x5, .int .u8 x6, .int .u8 x7]) :
    Calls Try.prog 75 #[.slice (some ⟨B, 0, none⟩) 8 8] w fun e w' => e = .returned (.tuple #[]) ∧ Bk w' B 5 #[.int .u8 x7, .int .u8 x6, .int .u8 x5, .int .u8 x4, .int .u8 x3, .int .u8 x2, .int .u8 x1, .int .u8 x0] ∧ w.grownBy w' (some B) := by
  have HB := Lib.hid hB
  clear hB
  have HO := Lib.hid (only_none w (some B))
  go_enter Try.func75, Try.ntmps75
  go_wp2_with fail
  refine wp_loop_rounds 5 ?_
  have k0 : w.cell? ⟨B, 0, none⟩ = some (.int .u8 x0) := HB.out.cell 0
  have f0 : w.frozen? ⟨B, 0, none⟩ = false := HB.out.fr 0
  have k7 : w.cell? ⟨B, 7, none⟩ = some (.int .u8 x7) := HB.out.cell 7
  have f7 : w.frozen? ⟨B, 7, none⟩ = false := HB.out.fr 7
  rw [rounds_succ]
  go_wp2_with fail
  go_region
  go_wp2_with fail
  generalize hw : ((w.setCell ⟨B, 0, none⟩ (.int .u8 x7)).setCell ⟨B, 7, none⟩ (.int .u8 x0)).drew = w1
  have hO : Hid (w.grownBy w1 (some B)) := by rw [← hw]; exact Lib.hid (only_draw (only_put (only_put HO.out 0 _) 7 _))
  have hB : Hid (Bk w1 B 5 #[.int .u8 x7, .int .u8 x1, .int .u8 x2, .int .u8 x3, .int .u8 x4, .int .u8 x5, .int .u8 x6, .int .u8 x0]) := by rw [← hw]; exact Lib.hid (((HB.out.put 0 _).put 7 _).draw)
  clear hw HO HB k0 k7 f0 f7
  have HO := hO
  have HB := hB
  clear hO hB
  have k1 : w1.cell? ⟨B, 1, none⟩ = some (.int .u8 x1) := HB.out.cell 1
  have f1 : w1.frozen? ⟨B, 1, none⟩ = false := HB.out.fr 1
  have k6 : w1.cell? ⟨B, 6, none⟩ = some (.int .u8 x6) := HB.out.cell 6
  have f6 : w1.frozen? ⟨B, 6, none⟩ = false := HB.out.fr 6
  rw [rounds_succ]
  go_wp2_with fail
  go_region
  go_wp2_with fail
  generalize hw : ((w1.setCell ⟨B, 1, none⟩ (.int .u8 x6)).setCell ⟨B, 6, none⟩ (.int .u8 x1)).drew = w2
  have hO : Hid (w.grownBy w2 (some B)) := by rw [← hw]; exact Lib.hid (only_draw (only_put (only_put HO.out 1 _) 6 _))
  have hB : Hid (Bk w2 B 5 #[.int .u8 x7, .int .u8 x6, .int .u8 x2, .int .u8 x3, .int .u8 x4, .int .u8 x5, .int .u8 x1, .int .u8 x0]) := by rw [← hw]; exact Lib.hid (((HB.out.put 1 _).put 6 _).draw)
  clear hw HO HB k1 k6 f1 f6
  have HO := hO
  have HB := hB
  clear hO hB
  have k2 : w2.cell? ⟨B, 2, none⟩ = some (.int .u8 x2) := HB.out.cell 2
  have f2 : w2.frozen? ⟨B, 2, none⟩ = false := HB.out.fr 2
  have k5 : w2.cell? ⟨B, 5, none⟩ = some (.int .u8 x5) := HB.out.cell 5
  have f5 : w2.frozen? ⟨B, 5, none⟩ = false := HB.out.fr 5
  rw [rounds_succ]
  go_wp2_with fail
  go_region
  go_wp2_with fail
  generalize hw : ((w2.setCell ⟨B, 2, none⟩ (.int .u8 x5)).setCell ⟨B, 5, none⟩ (.int .u8 x2)).drew = w3
  have hO : Hid (w.grownBy w3 (some B)) := by rw [← hw]; exact Lib.hid (only_draw (only_put (only_put HO.out 2 _) 5 _))
  have hB : Hid (Bk w3 B 5 #[.int .u8 x7, .int .u8 x6, .int .u8 x5, .int .u8 x3, .int .u8 x4, .int .u8 x2, .int .u8 x1, .int .u8 x0]) := by rw [← hw]; exact Lib.hid (((HB.out.put 2 _).put 5 _).draw)
  clear hw HO HB k2 k5 f2 f5
  have HO := hO
  have HB := hB
  clear hO hB
  have k3 : w3.cell? ⟨B, 3, none⟩ = some (.int .u8 x3) := HB.out.cell 3
  have f3 : w3.frozen? ⟨B, 3, none⟩ = false := HB.out.fr 3
  have k4 : w3.cell? ⟨B, 4, none⟩ = some (.int .u8 x4) := HB.out.cell 4
  have f4 : w3.frozen? ⟨B, 4, none⟩ = false := HB.out.fr 4
  rw [rounds_succ]
  go_wp2_with fail
  go_region
  go_wp2_with fail
  generalize hw : ((w3.setCell ⟨B, 3, none⟩ (.int .u8 x4)).setCell ⟨B, 4, none⟩ (.int .u8 x3)).drew = w4
  have hO : Hid (w.grownBy w4 (some B)) := by rw [← hw]; exact Lib.hid (only_draw (only_put (only_put HO.out 3 _) 4 _))
  have hB : Hid (Bk w4 B 5 #[.int .u8 x7, .int .u8 x6, .int .u8 x5, .int .u8 x4, .int .u8 x3, .int .u8 x2, .int .u8 x1, .int .u8 x0]) := by rw [← hw]; exact Lib.hid (((HB.out.put 3 _).put 4 _).draw)
  clear hw HO HB k3 k4 f3 f4
  have HO := hO
  have HB := hB
  clear hO hB
  rw [rounds_succ]
  go_wp2_with fail
  go_end0
  exact ⟨rfl, HB.out, HO.out⟩
def numC (n : Int) : Array Value := #[.int .u8 (n / 72057594037927936 % 256), .int .u8 (n / 281474976710656 % 256), .int .u8 (n / 1099511627776 % 256), .int .u8 (n / 4294967296 % 256), .int .u8 (n / 16777216 % 256), .int .u8 (n / 65536 % 256), .int .u8 (n / 256 % 256), .int .u8 (n % 256)]
set_option maxHeartbeats 4000000 in
set_option maxRecDepth 100000 in
theorem number_any (n : Int) (h0 : 0 ≤ n) (h1 : n < 18446744073709551616) (w : World) :
    Calls Try.prog 66 #[.int .u64 n] w fun e w' => e = .returned (.slice (some ⟨w.heap.size, 0, none⟩) 8 8) ∧ Bk w' w.heap.size 5 (numC n) ∧ Below w.heap.size w w' := by
  have L := Lib.hid (lowest_any n h0 h1)
  go_enter Try.func66, Try.ntmps66
  go_wp2_with fail
  refine (L.out _).mono ?_
  rintro e w1 ⟨rfl, rfl⟩
  have R := Lib.hid (rev8 w.heap.size _ _ _ _ _ _ _ _ _ (Bk.new (w := w) rfl 5 (lowC n)))
  have b1 := (Below.refl w.heap.size w).alloc (Nat.le_refl _) (.cells (lowC n) 5)
  have bl : w.heap.size ≤ (w.alloc (.cells (lowC n) 5)).heap.size := by simp
  generalize w.alloc (.cells (lowC n) 5) = w1 at R b1 bl ⊢
  clear L
  go_wp2_with fail
  refine R.out.mono ?_
  rintro e w2 ⟨rfl, h2, o2⟩
  have h2 := Lib.hid h2
  have b2 := below_only b1 o2 (Nat.le_refl _) bl
  clear R o2
  go_wp2_with fail
  go_ret
  exact ⟨rfl, h2.out, b2⟩
set_option maxHeartbeats 4000000 in
set_option maxRecDepth 100000 in
theorem rnumber_any (n : Int) (h0 : 0 ≤ n) (h1 : n < 18446744073709551616) (w : World) :
    Calls Try.prog 67 #[.int .u64 n] w fun e w' => e = .returned (.slice (some ⟨w.heap.size, 0, none⟩) 8 8) ∧ Bk w' w.heap.size 5 (numC n) ∧ Below w.heap.size w w' := by
  have hmk : ∀ w : World, (Instr.makeSlice 27 (.int .i64 8) (.int .i64 8)).run Try.prog w = .ok (.slice (some ⟨w.heap.size, 0, none⟩) 8 8) (w.alloc (.cells #[.int .u8 0, .int .u8 0, .int .u8 0, .int .u8 0, .int .u8 0, .int .u8 0, .int .u8 0, .int .u8 0] 5)) := fun _ => by kernel_rfl
  go_enter Try.func67, Try.ntmps67
  go_wp2_with fail
  refine wp_loop_rounds 9 ?_
  rw [rounds_succ]
  go_wp2_with fail
  rw [rounds_succ]
  go_wp2_with fail
  rw [rounds_succ]
  go_wp2_with fail
  rw [rounds_succ]
  go_wp2_with fail
  rw [rounds_succ]
  go_wp2_with fail
  rw [rounds_succ]
  go_wp2_with fail
  rw [rounds_succ]
  go_wp2_with fail
  rw [rounds_succ]
  go_wp2_with fail
  rw [rounds_succ]
  go_wp2_with fail
  go_ret
  refine ⟨rfl, ?_, (Below.refl _ _).alloc (Nat.le_refl _) _⟩
  refine Eq.trans (Bk.new rfl _ _) ?_
  unfold numC
  congr 3
  have e0 : n / 256 / 256 = n / 65536 := by omega
  have e1 : n / 256 / 256 / 256 = n / 16777216 := by omega
  have e2 : n / 256 / 256 / 256 / 256 = n / 4294967296 := by omega
  have e3 : n / 256 / 256 / 256 / 256 / 256 = n / 1099511627776 := by omega
  have e4 : n / 256 / 256 / 256 / 256 / 256 / 256 = n / 281474976710656 := by omega
  have e5 : n / 256 / 256 / 256 / 256 / 256 / 256 / 256 = n / 72057594037927936 := by omega
  have e9 : n / 72057594037927936 % 256 = n / 72057594037927936 := by omega
  rw [e5, e4, e3, e2, e1, e0, e9]
end Go.Proofs.Ytgoiidpcdifojaa.Sm
