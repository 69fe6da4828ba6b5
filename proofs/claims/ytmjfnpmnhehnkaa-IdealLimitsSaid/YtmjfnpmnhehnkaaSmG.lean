/- walks: digest, lowestFirst -/
import Derived.Test.YtmjfnpmnhehnkaaSmF
namespace Go.Proofs.Ytmjfnpmnhehnkaa.Sm
open Go.RowKit
def by8 (x : Int) : UInt8 := UInt8.ofNat (x % 256).toNat
theorem by8_int (x : Int) : ((by8 x).toNat : Int) = x % 256 := by
  unfold by8
  have : (x % 256).toNat < 256 := by omega
  rw [UInt8.toNat_ofNat_of_lt' (by simpa using this)]; omega
def digL (s : Wd) : List UInt8 := [by8 s.a, by8 (s.a / 256), by8 (s.a / 65536), by8 (s.a / 16777216), by8 s.b, by8 (s.b / 256), by8 (s.b / 65536), by8 (s.b / 16777216), by8 s.c, by8 (s.c / 256), by8 (s.c / 65536), by8 (s.c / 16777216), by8 s.d, by8 (s.d / 256), by8 (s.d / 65536), by8 (s.d / 16777216)]
theorem digL_len (s : Wd) : (digL s).length = 16 := rfl
def digV (l : List UInt8) : Value := .agg (Lib.byteCells l).toArray
theorem digL_V {s : Wd} (ok : s.Ok) : digV (digL s) = .agg #[.int .u8 (s.a % 256), .int .u8 (s.a / 256 % 256), .int .u8 (s.a / 65536 % 256), .int .u8 (s.a / 16777216), .int .u8 (s.b % 256), .int .u8 (s.b / 256 % 256), .int .u8 (s.b / 65536 % 256), .int .u8 (s.b / 16777216), .int .u8 (s.c % 256), .int .u8 (s.c / 256 % 256), .int .u8 (s.c / 65536 % 256), .int .u8 (s.c / 16777216), .int .u8 (s.d % 256), .int .u8 (s.d / 256 % 256), .int .u8 (s.d / 65536 % 256), .int .u8 (s.d / 16777216)] := by
  obtain ⟨⟨a0, a1⟩, ⟨b0, b1⟩, ⟨c0, c1⟩, ⟨d0, d1⟩⟩ := ok
  have ea : s.a / 16777216 % 256 = s.a / 16777216 := by omega
  have eb : s.b / 16777216 % 256 = s.b / 16777216 := by omega
  have ec : s.c / 16777216 % 256 = s.c / 16777216 := by omega
  have ed : s.d / 16777216 % 256 = s.d / 16777216 := by omega
  unfold digV digL Lib.byteCells
  simp only [List.map_cons, List.map_nil, by8_int, ea, eb, ec, ed]
def lowC (n : Int) : Array Value := #[.int .u8 (n % 256), .int .u8 (n / 256 % 256), .int .u8 (n / 65536 % 256), .int .u8 (n / 16777216 % 256), .int .u8 (n / 4294967296 % 256), .int .u8 (n / 1099511627776 % 256), .int .u8 (n / 281474976710656 % 256), .int .u8 (n / 72057594037927936 % 256)]
set_option maxHeartbeats 2000000 in
set_option maxRecDepth 100000 in
theorem lowest_any (n : Int) (h0 : 0 ≤ n) (h1 : n < 18446744073709551616) (w : World) :
    Calls Try.prog 127 #[.int .u64 n] w fun e w' => e = .returned (.slice (some ⟨w.heap.size, 0, none⟩) 8 8) ∧ w' = w.alloc (.cells (lowC n) 5) := by
  have hmk : ∀ w : World, (Instr.makeSlice 25 (.int .i64 8) (.int .i64 8)).run Try.prog w = .ok (.slice (some ⟨w.heap.size, 0, none⟩) 8 8) (w.alloc (.cells #[.int .u8 0, .int .u8 0, .int .u8 0, .int .u8 0, .int .u8 0, .int .u8 0, .int .u8 0, .int .u8 0] 5)) := fun _ => by kernel_rfl
  go_enter Try.func127, Try.ntmps127
  go_wp2
  refine wp_loop_rounds 9 ?_
  rw [rounds_succ]
  go_wp2
  rw [rounds_succ]
  go_wp2
  rw [rounds_succ]
  go_wp2
  rw [rounds_succ]
  go_wp2
  rw [rounds_succ]
  go_wp2
  rw [rounds_succ]
  go_wp2
  rw [rounds_succ]
  go_wp2
  rw [rounds_succ]
  go_wp2
  rw [rounds_succ]
  go_wp2
  go_ret
  have e : n / 72057594037927936 = n / 72057594037927936 % 256 := by omega
  refine ⟨rfl, ?_⟩
  unfold lowC
  rw [← e]
set_option maxHeartbeats 2000000 in
set_option maxRecDepth 100000 in
theorem digest_any (s : Wd) (ok : s.Ok) (B : Nat) (w : World) (hB : Bk w B 193 s.cells) :
    Calls Try.prog 129 #[.pointer (some ⟨B, 0, none⟩)] w fun e w' => e = .returned (digV (digL s)) ∧ Below w.heap.size w w' := by
  have hv := Lib.hid (digL_V ok)
  obtain ⟨⟨a0, a1⟩, ⟨b0, b1⟩, ⟨c0, c1⟩, ⟨d0, d1⟩⟩ := ok
  have k0 : w.cell? ⟨B, 0, none⟩ = some (.int .u32 s.a) := hB.cell 0
  have k1 : w.cell? ⟨B, 1, none⟩ = some (.int .u32 s.b) := hB.cell 1
  have k2 : w.cell? ⟨B, 2, none⟩ = some (.int .u32 s.c) := hB.cell 2
  have k3 : w.cell? ⟨B, 3, none⟩ = some (.int .u32 s.d) := hB.cell 3
  have f0 : w.frozen? ⟨B, 0, none⟩ = false := hB.fr 0
  have f1 : w.frozen? ⟨B, 1, none⟩ = false := hB.fr 1
  have f2 : w.frozen? ⟨B, 2, none⟩ = false := hB.fr 2
  have f3 : w.frozen? ⟨B, 3, none⟩ = false := hB.fr 3
  have hlt := World.block_lt_of_cell? w _ k0
  have HB := Lib.hid hB
  clear hB
  go_enter Try.func129, Try.ntmps129
  go_wp2
  refine wp_loop_rounds 17 ?_
  rw [rounds_succ]
  go_wp2
  rw [rounds_succ]
  go_wp2
  rw [rounds_succ]
  go_wp2
  rw [rounds_succ]
  go_wp2
  rw [rounds_succ]
  go_wp2
  rw [rounds_succ]
  go_wp2
  rw [rounds_succ]
  go_wp2
  rw [rounds_succ]
  go_wp2
  rw [rounds_succ]
  go_wp2
  rw [rounds_succ]
  go_wp2
  rw [rounds_succ]
  go_wp2
  rw [rounds_succ]
  go_wp2
  rw [rounds_succ]
  go_wp2
  rw [rounds_succ]
  go_wp2
  rw [rounds_succ]
  go_wp2
  rw [rounds_succ]
  go_wp2
  rw [rounds_succ]
  go_wp2
  rw [hv.out]
  exact bodyPost_ret (v := .agg #[.int .u8 (s.a % 256), .int .u8 (s.a / 256 % 256), .int .u8 (s.a / 65536 % 256), .int .u8 (s.a / 16777216), .int .u8 (s.b % 256), .int .u8 (s.b / 256 % 256), .int .u8 (s.b / 65536 % 256), .int .u8 (s.b / 16777216), .int .u8 (s.c % 256), .int .u8 (s.c / 256 % 256), .int .u8 (s.c / 65536 % 256), .int .u8 (s.c / 16777216), .int .u8 (s.d % 256), .int .u8 (s.d / 256 % 256), .int .u8 (s.d / 65536 % 256), .int .u8 (s.d / 16777216)]) (by simp [results, Try.results129, go_sem]) rfl ⟨rfl, ((Below.refl _ _).alloc (Nat.le_refl _) _).alloc (by simp) _⟩
end Go.Proofs.Ytmjfnpmnhehnkaa.Sm
