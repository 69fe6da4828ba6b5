/- walks: the law ShardTells -/
import Derived.Test.YtlebanghcbkejaaS3
import Derived.Test.YtlebanghcbkejaaSoA
import Derived.Test.YtlebanghcbkejaaQtA
namespace Go.Proofs.Ytlebanghcbkejaa
open Go.RowKit
theorem firstV_in {k m N : Int} (h0 : 0 ≤ k) (h1 : k < 16) (hN : clampM m = N) (hN1 : 1 ≤ N) : firstV k m = k % N := by
  unfold firstV inS
  rw [hN]
  simp [h0, h1, Int.tmod_eq_emod_of_nonneg h0]
set_option maxHeartbeats 4000000 in
set_option maxRecDepth 100000 in
theorem shardTells_walk (l : List UInt8) (hl : l.length = 4) (s m : Int) (w : World) :
    Calls Try.prog 8 #[digV l, .int .i64 s, .int .i64 m] w fun e w' => e = .returned (.bool true) ∧ Below w.heap.size w w' := by
  obtain ⟨cs, hcs⟩ : ∃ cs, cs = Lib.byteCells l := ⟨_, rfl⟩
  have hv : digV l = .agg cs.toArray := by rw [hcs]; rfl
  have H1 := Lib.hid (fun W => of_any l hl W)
  have H2 := Lib.hid (fun W => rof_any l hl W)
  rw [hv] at H1 H2 ⊢
  have hcl : cs.length = 4 := by rw [hcs]; simp [Lib.byteCells, hl]
  have HCL := Lib.hid hcl
  clear hcs hv hcl hl
  have hc : (m < 1 ∧ clampM m = 1) ∨ (1 ≤ m ∧ m ≤ 8 ∧ clampM m = m) ∨ (8 < m ∧ clampM m = 8) := by unfold clampM; split <;> (try split) <;> omega
  have bs := (Below.refl w.heap.size w).alloc (Nat.le_refl _) (.cells cs.toArray 44)
  have hh := Lib.hid (fun W => home_any m W)
  have hid := Lib.hid (show (w.alloc (.cells cs.toArray 44)).rangeAt w.heap.size 0 cs from (Bk.new (w := w) rfl 44 cs.toArray).range)
  rcases hc with ⟨m1, hN⟩ | ⟨m1, m2, hN⟩ | ⟨m1, hN⟩
  · have HN := Lib.hid hN
    clear hN
    go_enter Try.func8, Try.ntmps8
    go_wp2_with fail
    refine (hh.out _).mono ?_
    rintro e w1 ⟨rfl, hown, b1⟩
    have hcell := Lib.hid (show ∀ k : Nat, k < 16 → w1.cell? ⟨w.heap.size + 1, k, none⟩ = some (.int .i64 ((k : Int) % 1)) from fun k hk => by
      have h1 := hown.cellAt k (by omega)
      rw [homeC_at _ _ _ hk, if_pos hk, firstV_in (by omega) (by omega) HN.out (by omega)] at h1
      simpa using h1)
    have b1' : Below (w.heap.size + 1) (w.alloc (.cells cs.toArray 44)) w1 := by simpa using b1
    have bw := bs.trans (b1'.mono (by omega))
    have hrg := Lib.hid (show w1.rangeAt w.heap.size 0 cs from fun j v hv => (b1'.cell (p := ⟨w.heap.size, 0 + j, none⟩) (by simp)).trans (hid.out j v hv))
    clear b1 b1' hown
    go_wp2_with fail
    go_loopw [9] (fun i wr => ∃ k : Nat, k ≤ 16 ∧ i = .int .i64 k ∧ Hid (∀ k : Nat, k < 16 → wr.cell? ⟨w.heap.size + 1, k, none⟩ = some (.int .i64 ((k : Int) % 1))) ∧ Hid (wr.rangeAt w.heap.size 0 cs) ∧ Below w.heap.size w wr) (fun i _ => 16 - (intOf i).toNat)
    case atStart => exact ⟨0, by omega, rfl, by simpa using hcell, by simpa using hrg, by simpa using bw⟩
    case round =>
      clear hcell hrg bw
      obtain ⟨k, hk, rfl, hcell, hrg, bw⟩ := hrel
      by_cases hlt : k < 16
      · have q0 : (0 : Int) ≤ (k : Int) := by omega
        have q1 : (k : Int) < 16 := by omega
        have c0 := hcell.out k hlt
        have F := Lib.hid (fun W => (first_any (k : Int) m W))
        have hf : firstV (k : Int) m = (k : Int) % 1 := firstV_in (by omega) (by omega) HN.out (by omega)
        rw [hf] at F
        clear hf
        go_wp2_with fail
        go_quiet ((go_at_call 23; exact Calls.quiet_of_same ((F.out _).mono fun _ _ h => ⟨h.1, h.2.symm⟩)))
        go_wp2_with fail
        go_roundw
        case rel => exact ⟨k + 1, by omega, by go_num, hcell, hrg, ⟨bw.os, bw.tape, bw.output, bw.size, bw.block⟩⟩
        case measure => simp [intOf]; omega
      · obtain rfl : k = 16 := by omega
        go_wp2_with fail
        have hC := cls_all wr
        obtain ⟨dd, hd⟩ : ∃ d, Try.prog.underlying 44 = some d ∧ d.isRow = true := ⟨_, Try.underlying44, rfl⟩
        have HD := Lib.hid hd
        clear hd
        have hi4 := Lib.hid (show (Try.prog.info? 44).map (·.size) = some cs.length by rw [HCL.out]; kernel_rfl)
        have hz := bw.size
        have hlb : w.heap.size < wr.heap.size := by
          have h0 := World.block_lt_of_cell? wr _ (hcell.out 0 (by omega)); simp at h0; omega
        refine wp_region_cls (by kernel_rfl) (by kernel_rfl) ?_
        have P3 := Lib.hid (fun W => known13_any W)
        rcases (show s < 0 ∨ (0 ≤ s ∧ s < 16) ∨ (0 ≤ s ∧ 16 ≤ s) by omega) with hs | ⟨hs, hs'⟩ | ⟨hs, hs'⟩
        · have P2 := Lib.hid (fun W => right_any s W)
          rw [show inS s = false by unfold inS; simp; omega] at P2
          have d0 : decide (0 ≤ s) = false := by simp; omega
          repeat (first
            | (refine BigFrame.wpQuiet_want (by rfl) (fun K hK => ?_); refine cls_load_mid 44 _ rfl w.heap.size 0 rfl cs dd hrg.out hlb HD.out.1 HD.out.2 hi4.out (hK _ ?_); clear hK K)
            | (refine wpQuiet_step (fun K hK => ?_); go_simp; first | (refine hK _ ?_; clear hK K) | ((with_reducible refine ⟨_, cls_call (fun W _ => H1.out W), hK _ ?_⟩); clear hK K) | ((with_reducible refine ⟨_, cls_call (fun W _ => H2.out W), hK _ ?_⟩); clear hK K) | ((with_reducible refine ⟨_, cls_pure (fun W => P2.out W), hK _ ?_⟩); clear hK K) | ((with_reducible refine ⟨_, cls_call (fun W _ => P3.out W), hK _ ?_⟩); clear hK K)))
          refine wpQuiet_nil ?_
          intro w2 hw2
          go_wp2_with fail
          go_ret
          exact ⟨rfl, bw.trans (Below.mono hw2 hz)⟩
        · have P2 := Lib.hid (fun W => right_any s W)
          rw [show inS s = true by unfold inS; simp; omega] at P2
          have d0 : decide (0 ≤ s) = true := by simp; omega
          have d1 : decide (s < 16) = true := by simp; omega
          repeat (first
            | (refine BigFrame.wpQuiet_want (by rfl) (fun K hK => ?_); refine cls_load_mid 44 _ rfl w.heap.size 0 rfl cs dd hrg.out hlb HD.out.1 HD.out.2 hi4.out (hK _ ?_); clear hK K)
            | (refine wpQuiet_step (fun K hK => ?_); go_simp; first | (refine hK _ ?_; clear hK K) | ((with_reducible refine ⟨_, cls_call (fun W _ => H1.out W), hK _ ?_⟩); clear hK K) | ((with_reducible refine ⟨_, cls_call (fun W _ => H2.out W), hK _ ?_⟩); clear hK K) | ((with_reducible refine ⟨_, cls_pure (fun W => P2.out W), hK _ ?_⟩); clear hK K) | ((with_reducible refine ⟨_, cls_call (fun W _ => P3.out W), hK _ ?_⟩); clear hK K)))
          refine wpQuiet_nil ?_
          intro w2 hw2
          go_wp2_with fail
          go_ret
          exact ⟨rfl, bw.trans (Below.mono hw2 hz)⟩
        · have P2 := Lib.hid (fun W => right_any s W)
          rw [show inS s = false by unfold inS; simp; omega] at P2
          have d0 : decide (0 ≤ s) = true := by simp; omega
          have d1 : decide (s < 16) = false := by simp; omega
          repeat (first
            | (refine BigFrame.wpQuiet_want (by rfl) (fun K hK => ?_); refine cls_load_mid 44 _ rfl w.heap.size 0 rfl cs dd hrg.out hlb HD.out.1 HD.out.2 hi4.out (hK _ ?_); clear hK K)
            | (refine wpQuiet_step (fun K hK => ?_); go_simp; first | (refine hK _ ?_; clear hK K) | ((with_reducible refine ⟨_, cls_call (fun W _ => H1.out W), hK _ ?_⟩); clear hK K) | ((with_reducible refine ⟨_, cls_call (fun W _ => H2.out W), hK _ ?_⟩); clear hK K) | ((with_reducible refine ⟨_, cls_pure (fun W => P2.out W), hK _ ?_⟩); clear hK K) | ((with_reducible refine ⟨_, cls_call (fun W _ => P3.out W), hK _ ?_⟩); clear hK K)))
          refine wpQuiet_nil ?_
          intro w2 hw2
          go_wp2_with fail
          go_ret
          exact ⟨rfl, bw.trans (Below.mono hw2 hz)⟩
  · have HN := Lib.hid hN
    clear hN
    go_enter Try.func8, Try.ntmps8
    go_wp2_with fail
    refine (hh.out _).mono ?_
    rintro e w1 ⟨rfl, hown, b1⟩
    have hcell := Lib.hid (show ∀ k : Nat, k < 16 → w1.cell? ⟨w.heap.size + 1, k, none⟩ = some (.int .i64 ((k : Int) % m)) from fun k hk => by
      have h1 := hown.cellAt k (by omega)
      rw [homeC_at _ _ _ hk, if_pos hk, firstV_in (by omega) (by omega) HN.out (by omega)] at h1
      simpa using h1)
    have b1' : Below (w.heap.size + 1) (w.alloc (.cells cs.toArray 44)) w1 := by simpa using b1
    have bw := bs.trans (b1'.mono (by omega))
    have hrg := Lib.hid (show w1.rangeAt w.heap.size 0 cs from fun j v hv => (b1'.cell (p := ⟨w.heap.size, 0 + j, none⟩) (by simp)).trans (hid.out j v hv))
    clear b1 b1' hown
    go_wp2_with fail
    go_loopw [9] (fun i wr => ∃ k : Nat, k ≤ 16 ∧ i = .int .i64 k ∧ Hid (∀ k : Nat, k < 16 → wr.cell? ⟨w.heap.size + 1, k, none⟩ = some (.int .i64 ((k : Int) % m))) ∧ Hid (wr.rangeAt w.heap.size 0 cs) ∧ Below w.heap.size w wr) (fun i _ => 16 - (intOf i).toNat)
    case atStart => exact ⟨0, by omega, rfl, by simpa using hcell, by simpa using hrg, by simpa using bw⟩
    case round =>
      clear hcell hrg bw
      obtain ⟨k, hk, rfl, hcell, hrg, bw⟩ := hrel
      by_cases hlt : k < 16
      · have q0 : (0 : Int) ≤ (k : Int) := by omega
        have q1 : (k : Int) < 16 := by omega
        have c0 := hcell.out k hlt
        have F := Lib.hid (fun W => (first_any (k : Int) m W))
        have hf : firstV (k : Int) m = (k : Int) % m := firstV_in (by omega) (by omega) HN.out (by omega)
        rw [hf] at F
        clear hf
        go_wp2_with fail
        go_quiet ((go_at_call 23; exact Calls.quiet_of_same ((F.out _).mono fun _ _ h => ⟨h.1, h.2.symm⟩)))
        go_wp2_with fail
        go_roundw
        case rel => exact ⟨k + 1, by omega, by go_num, hcell, hrg, ⟨bw.os, bw.tape, bw.output, bw.size, bw.block⟩⟩
        case measure => simp [intOf]; omega
      · obtain rfl : k = 16 := by omega
        go_wp2_with fail
        have hC := cls_all wr
        obtain ⟨dd, hd⟩ : ∃ d, Try.prog.underlying 44 = some d ∧ d.isRow = true := ⟨_, Try.underlying44, rfl⟩
        have HD := Lib.hid hd
        clear hd
        have hi4 := Lib.hid (show (Try.prog.info? 44).map (·.size) = some cs.length by rw [HCL.out]; kernel_rfl)
        have hz := bw.size
        have hlb : w.heap.size < wr.heap.size := by
          have h0 := World.block_lt_of_cell? wr _ (hcell.out 0 (by omega)); simp at h0; omega
        refine wp_region_cls (by kernel_rfl) (by kernel_rfl) ?_
        have P3 := Lib.hid (fun W => known13_any W)
        rcases (show s < 0 ∨ (0 ≤ s ∧ s < 16) ∨ (0 ≤ s ∧ 16 ≤ s) by omega) with hs | ⟨hs, hs'⟩ | ⟨hs, hs'⟩
        · have P2 := Lib.hid (fun W => right_any s W)
          rw [show inS s = false by unfold inS; simp; omega] at P2
          have d0 : decide (0 ≤ s) = false := by simp; omega
          repeat (first
            | (refine BigFrame.wpQuiet_want (by rfl) (fun K hK => ?_); refine cls_load_mid 44 _ rfl w.heap.size 0 rfl cs dd hrg.out hlb HD.out.1 HD.out.2 hi4.out (hK _ ?_); clear hK K)
            | (refine wpQuiet_step (fun K hK => ?_); go_simp; first | (refine hK _ ?_; clear hK K) | ((with_reducible refine ⟨_, cls_call (fun W _ => H1.out W), hK _ ?_⟩); clear hK K) | ((with_reducible refine ⟨_, cls_call (fun W _ => H2.out W), hK _ ?_⟩); clear hK K) | ((with_reducible refine ⟨_, cls_pure (fun W => P2.out W), hK _ ?_⟩); clear hK K) | ((with_reducible refine ⟨_, cls_call (fun W _ => P3.out W), hK _ ?_⟩); clear hK K)))
          refine wpQuiet_nil ?_
          intro w2 hw2
          go_wp2_with fail
          go_ret
          exact ⟨rfl, bw.trans (Below.mono hw2 hz)⟩
        · have P2 := Lib.hid (fun W => right_any s W)
          rw [show inS s = true by unfold inS; simp; omega] at P2
          have d0 : decide (0 ≤ s) = true := by simp; omega
          have d1 : decide (s < 16) = true := by simp; omega
          repeat (first
            | (refine BigFrame.wpQuiet_want (by rfl) (fun K hK => ?_); refine cls_load_mid 44 _ rfl w.heap.size 0 rfl cs dd hrg.out hlb HD.out.1 HD.out.2 hi4.out (hK _ ?_); clear hK K)
            | (refine wpQuiet_step (fun K hK => ?_); go_simp; first | (refine hK _ ?_; clear hK K) | ((with_reducible refine ⟨_, cls_call (fun W _ => H1.out W), hK _ ?_⟩); clear hK K) | ((with_reducible refine ⟨_, cls_call (fun W _ => H2.out W), hK _ ?_⟩); clear hK K) | ((with_reducible refine ⟨_, cls_pure (fun W => P2.out W), hK _ ?_⟩); clear hK K) | ((with_reducible refine ⟨_, cls_call (fun W _ => P3.out W), hK _ ?_⟩); clear hK K)))
          refine wpQuiet_nil ?_
          intro w2 hw2
          go_wp2_with fail
          go_ret
          exact ⟨rfl, bw.trans (Below.mono hw2 hz)⟩
        · have P2 := Lib.hid (fun W => right_any s W)
          rw [show inS s = false by unfold inS; simp; omega] at P2
          have d0 : decide (0 ≤ s) = true := by simp; omega
          have d1 : decide (s < 16) = false := by simp; omega
          repeat (first
            | (refine BigFrame.wpQuiet_want (by rfl) (fun K hK => ?_); refine cls_load_mid 44 _ rfl w.heap.size 0 rfl cs dd hrg.out hlb HD.out.1 HD.out.2 hi4.out (hK _ ?_); clear hK K)
            | (refine wpQuiet_step (fun K hK => ?_); go_simp; first | (refine hK _ ?_; clear hK K) | ((with_reducible refine ⟨_, cls_call (fun W _ => H1.out W), hK _ ?_⟩); clear hK K) | ((with_reducible refine ⟨_, cls_call (fun W _ => H2.out W), hK _ ?_⟩); clear hK K) | ((with_reducible refine ⟨_, cls_pure (fun W => P2.out W), hK _ ?_⟩); clear hK K) | ((with_reducible refine ⟨_, cls_call (fun W _ => P3.out W), hK _ ?_⟩); clear hK K)))
          refine wpQuiet_nil ?_
          intro w2 hw2
          go_wp2_with fail
          go_ret
          exact ⟨rfl, bw.trans (Below.mono hw2 hz)⟩
  · have HN := Lib.hid hN
    clear hN
    go_enter Try.func8, Try.ntmps8
    go_wp2_with fail
    refine (hh.out _).mono ?_
    rintro e w1 ⟨rfl, hown, b1⟩
    have hcell := Lib.hid (show ∀ k : Nat, k < 16 → w1.cell? ⟨w.heap.size + 1, k, none⟩ = some (.int .i64 ((k : Int) % 8)) from fun k hk => by
      have h1 := hown.cellAt k (by omega)
      rw [homeC_at _ _ _ hk, if_pos hk, firstV_in (by omega) (by omega) HN.out (by omega)] at h1
      simpa using h1)
    have b1' : Below (w.heap.size + 1) (w.alloc (.cells cs.toArray 44)) w1 := by simpa using b1
    have bw := bs.trans (b1'.mono (by omega))
    have hrg := Lib.hid (show w1.rangeAt w.heap.size 0 cs from fun j v hv => (b1'.cell (p := ⟨w.heap.size, 0 + j, none⟩) (by simp)).trans (hid.out j v hv))
    clear b1 b1' hown
    go_wp2_with fail
    go_loopw [9] (fun i wr => ∃ k : Nat, k ≤ 16 ∧ i = .int .i64 k ∧ Hid (∀ k : Nat, k < 16 → wr.cell? ⟨w.heap.size + 1, k, none⟩ = some (.int .i64 ((k : Int) % 8))) ∧ Hid (wr.rangeAt w.heap.size 0 cs) ∧ Below w.heap.size w wr) (fun i _ => 16 - (intOf i).toNat)
    case atStart => exact ⟨0, by omega, rfl, by simpa using hcell, by simpa using hrg, by simpa using bw⟩
    case round =>
      clear hcell hrg bw
      obtain ⟨k, hk, rfl, hcell, hrg, bw⟩ := hrel
      by_cases hlt : k < 16
      · have q0 : (0 : Int) ≤ (k : Int) := by omega
        have q1 : (k : Int) < 16 := by omega
        have c0 := hcell.out k hlt
        have F := Lib.hid (fun W => (first_any (k : Int) m W))
        have hf : firstV (k : Int) m = (k : Int) % 8 := firstV_in (by omega) (by omega) HN.out (by omega)
        rw [hf] at F
        clear hf
        go_wp2_with fail
        go_quiet ((go_at_call 23; exact Calls.quiet_of_same ((F.out _).mono fun _ _ h => ⟨h.1, h.2.symm⟩)))
        go_wp2_with fail
        go_roundw
        case rel => exact ⟨k + 1, by omega, by go_num, hcell, hrg, ⟨bw.os, bw.tape, bw.output, bw.size, bw.block⟩⟩
        case measure => simp [intOf]; omega
      · obtain rfl : k = 16 := by omega
        go_wp2_with fail
        have hC := cls_all wr
        obtain ⟨dd, hd⟩ : ∃ d, Try.prog.underlying 44 = some d ∧ d.isRow = true := ⟨_, Try.underlying44, rfl⟩
        have HD := Lib.hid hd
        clear hd
        have hi4 := Lib.hid (show (Try.prog.info? 44).map (·.size) = some cs.length by rw [HCL.out]; kernel_rfl)
        have hz := bw.size
        have hlb : w.heap.size < wr.heap.size := by
          have h0 := World.block_lt_of_cell? wr _ (hcell.out 0 (by omega)); simp at h0; omega
        refine wp_region_cls (by kernel_rfl) (by kernel_rfl) ?_
        have P3 := Lib.hid (fun W => known13_any W)
        rcases (show s < 0 ∨ (0 ≤ s ∧ s < 16) ∨ (0 ≤ s ∧ 16 ≤ s) by omega) with hs | ⟨hs, hs'⟩ | ⟨hs, hs'⟩
        · have P2 := Lib.hid (fun W => right_any s W)
          rw [show inS s = false by unfold inS; simp; omega] at P2
          have d0 : decide (0 ≤ s) = false := by simp; omega
          repeat (first
            | (refine BigFrame.wpQuiet_want (by rfl) (fun K hK => ?_); refine cls_load_mid 44 _ rfl w.heap.size 0 rfl cs dd hrg.out hlb HD.out.1 HD.out.2 hi4.out (hK _ ?_); clear hK K)
            | (refine wpQuiet_step (fun K hK => ?_); go_simp; first | (refine hK _ ?_; clear hK K) | ((with_reducible refine ⟨_, cls_call (fun W _ => H1.out W), hK _ ?_⟩); clear hK K) | ((with_reducible refine ⟨_, cls_call (fun W _ => H2.out W), hK _ ?_⟩); clear hK K) | ((with_reducible refine ⟨_, cls_pure (fun W => P2.out W), hK _ ?_⟩); clear hK K) | ((with_reducible refine ⟨_, cls_call (fun W _ => P3.out W), hK _ ?_⟩); clear hK K)))
          refine wpQuiet_nil ?_
          intro w2 hw2
          go_wp2_with fail
          go_ret
          exact ⟨rfl, bw.trans (Below.mono hw2 hz)⟩
        · have P2 := Lib.hid (fun W => right_any s W)
          rw [show inS s = true by unfold inS; simp; omega] at P2
          have d0 : decide (0 ≤ s) = true := by simp; omega
          have d1 : decide (s < 16) = true := by simp; omega
          repeat (first
            | (refine BigFrame.wpQuiet_want (by rfl) (fun K hK => ?_); refine cls_load_mid 44 _ rfl w.heap.size 0 rfl cs dd hrg.out hlb HD.out.1 HD.out.2 hi4.out (hK _ ?_); clear hK K)
            | (refine wpQuiet_step (fun K hK => ?_); go_simp; first | (refine hK _ ?_; clear hK K) | ((with_reducible refine ⟨_, cls_call (fun W _ => H1.out W), hK _ ?_⟩); clear hK K) | ((with_reducible refine ⟨_, cls_call (fun W _ => H2.out W), hK _ ?_⟩); clear hK K) | ((with_reducible refine ⟨_, cls_pure (fun W => P2.out W), hK _ ?_⟩); clear hK K) | ((with_reducible refine ⟨_, cls_call (fun W _ => P3.out W), hK _ ?_⟩); clear hK K)))
          refine wpQuiet_nil ?_
          intro w2 hw2
          go_wp2_with fail
          go_ret
          exact ⟨rfl, bw.trans (Below.mono hw2 hz)⟩
        · have P2 := Lib.hid (fun W => right_any s W)
          rw [show inS s = false by unfold inS; simp; omega] at P2
          have d0 : decide (0 ≤ s) = true := by simp; omega
          have d1 : decide (s < 16) = false := by simp; omega
          repeat (first
            | (refine BigFrame.wpQuiet_want (by rfl) (fun K hK => ?_); refine cls_load_mid 44 _ rfl w.heap.size 0 rfl cs dd hrg.out hlb HD.out.1 HD.out.2 hi4.out (hK _ ?_); clear hK K)
            | (refine wpQuiet_step (fun K hK => ?_); go_simp; first | (refine hK _ ?_; clear hK K) | ((with_reducible refine ⟨_, cls_call (fun W _ => H1.out W), hK _ ?_⟩); clear hK K) | ((with_reducible refine ⟨_, cls_call (fun W _ => H2.out W), hK _ ?_⟩); clear hK K) | ((with_reducible refine ⟨_, cls_pure (fun W => P2.out W), hK _ ?_⟩); clear hK K) | ((with_reducible refine ⟨_, cls_call (fun W _ => P3.out W), hK _ ?_⟩); clear hK K)))
          refine wpQuiet_nil ?_
          intro w2 hw2
          go_wp2_with fail
          go_ret
          exact ⟨rfl, bw.trans (Below.mono hw2 hz)⟩
end Go.Proofs.Ytlebanghcbkejaa
