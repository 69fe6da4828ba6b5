/- walks: the law RegisterNumbers -/
import Derived.Test.YtlebanghcbkejaaRgS
namespace Go.Proofs.Ytlebanghcbkejaa
open Go.RowKit
def u64At (w : World) (B n : Nat) : Prop := ∀ i : Nat, i < n → ∃ x : Int, w.cell? ⟨B, i, none⟩ = some (.int .u64 x) ∧ 0 ≤ x ∧ x < 18446744073709551616
theorem u64At.ext {w w' : World} {B n : Nat} (h : u64At w B n) (hB : B < w.heap.size) (k : Ex w w') : u64At w' B n := fun i hi => by
  obtain ⟨x, h1, h2⟩ := h i hi
  exact ⟨x, (Below.cell (p := ⟨B, i, none⟩) k hB).trans h1, h2⟩
theorem u64At.under {w w' : World} {B n C : Nat} (h : u64At w B n) (k : Below C w w') (hB : B < C) : u64At w' B n := fun i hi => by
  obtain ⟨x, h1, h2⟩ := h i hi
  exact ⟨x, (Below.cell (p := ⟨B, i, none⟩) k hB).trans h1, h2⟩
theorem u64At.new (w : World) (l : List Int) (h : ∀ x ∈ l, 0 ≤ x ∧ x < 18446744073709551616) (t : TypeId) : u64At (w.alloc (.cells (l.map (Value.int .u64)).toArray t)) w.heap.size l.length := fun i hi => by
  refine ⟨l[i], ?_, h _ (List.getElem_mem hi)⟩
  rw [(Bk.new (w := w) rfl t (l.map (Value.int .u64)).toArray).cell i]
  simp [hi]
set_option maxHeartbeats 8000000 in
set_option maxRecDepth 100000 in
theorem numbers_any (w : World) : Calls Try.prog 3 #[] w fun e w' => e = .returned (.bool true) ∧ Below w.heap.size w w' := by
  have U6 := Lib.hid (fun W : World => u64At.new W [0, 1, 1099511627775, 1099511627776, 1099511627777, 18446744073709551615] (by decide) 22)
  have U9 := Lib.hid (fun W : World => u64At.new W [0, 1, 7, 8, 9, 1099511627775, 1099511627776, 1099511627777, 18446744073709551615] (by decide) 22)
  have C4 := Lib.hid known_any
  have al : ∀ (W : World) (o : Obj), Ex W (W.alloc o) := fun W o => (Below.refl _ _).alloc (Nat.le_refl _) _
  have AL := Lib.hid al
  clear al
  go_enter Try.func3, Try.ntmps3
  go_wp2_with fail
  have a6 : u64At (w.alloc (.cells #[.int .u64 0, .int .u64 1, .int .u64 1099511627775, .int .u64 1099511627776, .int .u64 1099511627777, .int .u64 18446744073709551615] 22)) w.heap.size 6 := U6.out w
  have bw := AL.out w (.cells #[.int .u64 0, .int .u64 1, .int .u64 1099511627775, .int .u64 1099511627776, .int .u64 1099511627777, .int .u64 18446744073709551615] 22)
  have hz := Lib.hid (show (w.alloc (.cells #[.int .u64 0, .int .u64 1, .int .u64 1099511627775, .int .u64 1099511627776, .int .u64 1099511627777, .int .u64 18446744073709551615] 22)).heap.size = w.heap.size + 1 by simp)
  generalize hw1 : w.alloc (.cells #[.int .u64 0, .int .u64 1, .int .u64 1099511627775, .int .u64 1099511627776, .int .u64 1099511627777, .int .u64 18446744073709551615] 22) = w1 at a6 bw hz ⊢
  obtain ⟨B, hB⟩ : ∃ B, B = w.heap.size := ⟨_, rfl⟩
  rw [← hB] at a6 hz ⊢
  have HB := Lib.hid hB
  have lt1 : B < w1.heap.size := by rw [hz.out]; omega
  have bw1 : Below B w w1 := by rw [hB]; exact bw
  have UU := Lib.hid a6
  clear bw hz hw1 hB a6 U6
  go_loopw [10] (fun i wr => ∃ k : Nat, k ≤ 6 ∧ i = .int .i64 k ∧ Hid (u64At wr B 6) ∧ Hid (B < wr.heap.size) ∧ Below B w wr) (fun i _ => 6 - (intOf i).toNat)
  case atStart => exact ⟨0, by omega, rfl, UU, Lib.hid lt1, bw1⟩
  case round =>
    clear UU lt1 bw1
    obtain ⟨k, hk, rfl, a6, hB, bw⟩ := hrel
    by_cases hlt : k < 6
    · obtain ⟨x, cx, x0, x1⟩ := a6.out k hlt
      have X1 := Lib.hid x1
      have q0 : (0 : Int) ≤ (k : Int) := by omega
      have q1 : (k : Int) < 6 := by omega
      clear x1
      go_wp2_with fail
      have a9 : u64At (wr.alloc (.cells #[.int .u64 0, .int .u64 1, .int .u64 7, .int .u64 8, .int .u64 9, .int .u64 1099511627775, .int .u64 1099511627776, .int .u64 1099511627777, .int .u64 18446744073709551615] 22)) wr.heap.size 9 := U9.out wr
      have a9 := Lib.hid a9
      have xa := AL.out wr (.cells #[.int .u64 0, .int .u64 1, .int .u64 7, .int .u64 8, .int .u64 9, .int .u64 1099511627775, .int .u64 1099511627776, .int .u64 1099511627777, .int .u64 18446744073709551615] 22)
      have a6b := Lib.hid (a6.out.ext hB.out xa)
      have lt2 := Lib.hid (show wr.heap.size < (wr.alloc (.cells #[.int .u64 0, .int .u64 1, .int .u64 7, .int .u64 8, .int .u64 9, .int .u64 1099511627775, .int .u64 1099511627776, .int .u64 1099511627777, .int .u64 18446744073709551615] 22)).heap.size by simp)
      have bw2 : Below B w _ := bw.trans (xa.mono (Nat.le_of_lt hB.out))
      obtain ⟨D, hD⟩ : ∃ D, D = wr.heap.size := ⟨_, rfl⟩
      have hBD := Lib.hid (show B < D by rw [hD]; exact hB.out)
      rw [← hD] at a9 lt2 ⊢
      clear xa a6 hB bw cx
      generalize wr.alloc (.cells #[.int .u64 0, .int .u64 1, .int .u64 7, .int .u64 8, .int .u64 9, .int .u64 1099511627775, .int .u64 1099511627776, .int .u64 1099511627777, .int .u64 18446744073709551615] 22) = wq at *
      clear hD
      go_loopw [16] (fun i wr => ∃ j : Nat, j ≤ 9 ∧ i = .int .i64 j ∧ Hid (u64At wr B 6) ∧ Hid (u64At wr D 9) ∧ Hid (D < wr.heap.size) ∧ Below B w wr) (fun i _ => 9 - (intOf i).toNat)
      case atStart => exact ⟨0, by omega, rfl, a6b, a9, lt2, bw2⟩
      case round =>
        clear a6b a9 lt2 bw2
        obtain ⟨j, hj, rfl, a6, a9, hD, bw⟩ := hrel
        by_cases hlt2 : j < 9
        · obtain ⟨y, cy, y0, y1⟩ := a9.out j hlt2
          have Y1 := Lib.hid y1
          have q2 : (0 : Int) ≤ (j : Int) := by omega
          have q3 : (j : Int) < 9 := by omega
          clear y1
          go_wp2_with fail
          clear cy
          go_loopw [5] (fun v wr => ∃ m : Nat, m ≤ 11 ∧ v = .int .u64 m ∧ Hid (u64At wr B 6) ∧ Hid (u64At wr D 9) ∧ Hid (D < wr.heap.size) ∧ Below B w wr) (fun v _ => 11 - (intOf v).toNat)
          case atStart => exact ⟨0, by omega, rfl, a6, a9, hD, bw⟩
          case round =>
            clear a6 a9 hD bw
            obtain ⟨m, hm, rfl, a6, a9, hD, bw⟩ := hrel
            by_cases hlt3 : m < 11
            · have q4 : (0 : Int) ≤ (m : Int) := by omega
              have q5 : (m : Int) < 11 := by omega
              go_wp2_with fail
              go_loopw [6] (fun v wr => ∃ p : Nat, p ≤ 4 ∧ v = .int .i64 ((p : Int) - 1) ∧ Hid (u64At wr B 6) ∧ Hid (u64At wr D 9) ∧ Hid (D < wr.heap.size) ∧ Below B w wr) (fun v _ => (3 - intOf v).toNat)
              case atStart => exact ⟨0, by omega, rfl, a6, a9, hD, bw⟩
              case round =>
                clear a6 a9 hD bw
                obtain ⟨p, hp, rfl, a6, a9, hD, bw⟩ := hrel
                obtain ⟨pv, hpv⟩ : ∃ pv : Int, pv = (p : Int) - 1 := ⟨_, rfl⟩
                have p0 : -1 ≤ pv := by omega
                have p1 : pv ≤ 3 := by omega
                rw [← hpv]
                by_cases hlt4 : pv < 3
                · have HPV := Lib.hid hpv
                  clear hpv
                  go_wp2_with (first | (with_reducible refine stop_load25 ?_) | (with_reducible refine stop_store25 ?_) | (with_reducible refine stop_load27 ?_) | (with_reducible refine stop_store27 ?_))
                  obtain ⟨u, hu, hu0⟩ : ∃ u : Int, u = IntKind.u64.wrap (y - (m : Int)) ∧ 0 ≤ u := ⟨_, rfl, by unfold IntKind.wrap; simp [IntKind.signed, IntKind.bits]; omega⟩
                  rw [← hu]
                  obtain ⟨T, hT⟩ : ∃ T : Rg, T = ⟨x, y, u, zeroL, pv⟩ := ⟨_, rfl⟩
                  obtain ⟨O, hO⟩ : ∃ T : Rg, T = ⟨x, y, u, [1, 0, 0, 0, 0, 0, 0, 0, 0, 0, 0, 0, 0, 0, 0, 0], pv⟩ := ⟨_, rfl⟩
                  have okT : T.Ok := by rw [hT]; exact ⟨x0, y0, hu0, rfl⟩
                  have okO : O.Ok := by rw [hO]; exact ⟨x0, y0, hu0, rfl⟩
                  have inT : T.In := by rw [hT]; exact ⟨X1.out, Y1.out, (by show _ ≤ pv; omega), (by show pv ≤ _; omega)⟩
                  have inO : O.In := by rw [hO]; exact ⟨X1.out, Y1.out, (by show _ ≤ pv; omega), (by show pv ≤ _; omega)⟩
                  have okU : Rg.Ok ⟨1, 5, 0, zeroL, 0⟩ := ⟨by decide, by decide, by decide, rfl⟩
                  have e1 : Value.agg #[.int .u64 1, .int .u64 5, .int .u64 0, .int .u8 0, .int .u8 0, .int .u8 0, .int .u8 0, .int .u8 0, .int .u8 0, .int .u8 0, .int .u8 0, .int .u8 0, .int .u8 0, .int .u8 0, .int .u8 0, .int .u8 0, .int .u8 0, .int .u8 0, .int .u8 0, .int .i64 0] = Rg.V ⟨1, 5, 0, zeroL, 0⟩ := rfl
                  have e2 : Value.agg #[.int .u8 4, .int .u8 0, .int .u8 0, .int .u8 0, .int .u8 0, .int .u8 0, .int .u8 0, .int .u8 0, .int .u8 0, .int .u8 0, .int .u8 0, .int .u8 0, .int .u8 0, .int .u8 0, .int .u8 0, .int .u8 0] = digV [4, 0, 0, 0, 0, 0, 0, 0, 0, 0, 0, 0, 0, 0, 0, 0] := rfl
                  have e3 : Value.agg #[.int .u8 0, .int .u8 0, .int .u8 0, .int .u8 0, .int .u8 0, .int .u8 0, .int .u8 0, .int .u8 0, .int .u8 0, .int .u8 0, .int .u8 0, .int .u8 0, .int .u8 0, .int .u8 0, .int .u8 0, .int .u8 0] = digV zeroL := rfl
                  have S1 : Hid (∀ W : World, Calls Try.prog 11 #[T.V, .agg #[.int .u64 1, .int .u64 5, .int .u64 0, .int .u8 0, .int .u8 0, .int .u8 0, .int .u8 0, .int .u8 0, .int .u8 0, .int .u8 0, .int .u8 0, .int .u8 0, .int .u8 0, .int .u8 0, .int .u8 0, .int .u8 0, .int .u8 0, .int .u8 0, .int .u8 0, .int .i64 0], .agg #[.int .u8 4, .int .u8 0, .int .u8 0, .int .u8 0, .int .u8 0, .int .u8 0, .int .u8 0, .int .u8 0, .int .u8 0, .int .u8 0, .int .u8 0, .int .u8 0, .int .u8 0, .int .u8 0, .int .u8 0, .int .u8 0]] W fun e w' => e = .returned (.bool true) ∧ Below W.heap.size W w') := by
                    rw [e1, e2]; exact Lib.hid fun W => same_any T _ okT okU inT _ rfl W
                  have S2 : Hid (∀ W : World, Calls Try.prog 11 #[O.V, O.V, .agg #[.int .u8 0, .int .u8 0, .int .u8 0, .int .u8 0, .int .u8 0, .int .u8 0, .int .u8 0, .int .u8 0, .int .u8 0, .int .u8 0, .int .u8 0, .int .u8 0, .int .u8 0, .int .u8 0, .int .u8 0, .int .u8 0]] W fun e w' => e = .returned (.bool true) ∧ Below W.heap.size W w') := by
                    rw [e3]; exact Lib.hid fun W => same_any O O okO okO inO _ rfl W
                  clear e1 e2 e3
                  (with_reducible refine ⟨?_⟩); (with_reducible refine at_any ?_ ?_); (focus go_simp); refine fun K hK => wp_str _ _ wr.heap.size T rfl rfl (by rw [hT]; rfl) okT.l16 (Bk.new rfl _ _) rfl (fun w2 hd ho => hK _ _ ?_)
                  have HT := Lib.hid hT
                  have HO := Lib.hid hO
                  have bd := Below.mono (Only.ex ho) (show D + 1 ≤ wr.heap.size from hD.out)
                  obtain ⟨g, hg⟩ : ∃ g, g = wr.heap.size := ⟨_, rfl⟩
                  rw [← hg] at hd ⊢
                  have hDg := Lib.hid (show D + 1 ≤ g by rw [hg]; exact hD.out)
                  have A := Lib.hid hd
                  clear hK ho hd hg hT hO hu okT okO inT inO okU
                  go_wp2_with (first | (with_reducible refine stop_load25 ?_) | (with_reducible refine stop_store25 ?_) | (with_reducible refine stop_load27 ?_) | (with_reducible refine stop_store27 ?_))
                  (with_reducible refine ⟨?_⟩); (with_reducible refine at_any ?_ ?_); (focus go_simp); refine fun K hK => wp_ldr _ _ T rfl rfl A.out (hK _ _ ?_)
                  clear hK
                  go_wp2_with (first | (with_reducible refine stop_load25 ?_) | (with_reducible refine stop_store25 ?_) | (with_reducible refine stop_load27 ?_) | (with_reducible refine stop_store27 ?_))
                  refine (S1.out _).mono ?_
                  rintro e w3 ⟨rfl, x3⟩
                  have bd3 := bd.trans (x3.mono (Nat.le_trans hD.out bd.size))
                  have A3 := Lib.hid (A.out.ext x3)
                  clear A bd x3 S1
                  go_wp2_with (first | (with_reducible refine stop_load25 ?_) | (with_reducible refine stop_store25 ?_) | (with_reducible refine stop_load27 ?_) | (with_reducible refine stop_store27 ?_))
                  (with_reducible refine ⟨?_⟩); (with_reducible refine at_any ?_ ?_); (focus go_simp); refine fun K hK => wp_strh _ _ g T [1, 0, 0, 0, 0, 0, 0, 0, 0, 0, 0, 0, 0, 0, 0, 0] rfl rfl rfl rfl A3.out (fun w4 hd ho => hK _ _ ?_)
                  have bd4 := ho.below (D + 1) hDg.out _ bd3
                  have A4 : Hid (RB w4 g O) := by
                    rw [HO.out]; rw [HT.out] at hd; exact Lib.hid hd
                  clear hK ho hd bd3 A3
                  go_wp2_with (first | (with_reducible refine stop_load25 ?_) | (with_reducible refine stop_store25 ?_) | (with_reducible refine stop_load27 ?_) | (with_reducible refine stop_store27 ?_))
                  (with_reducible refine ⟨?_⟩); (with_reducible refine at_any ?_ ?_); (focus go_simp); refine fun K hK => wp_ldr _ _ O rfl rfl A4.out (hK _ _ ?_)
                  clear hK
                  go_wp2_with (first | (with_reducible refine stop_load25 ?_) | (with_reducible refine stop_store25 ?_) | (with_reducible refine stop_load27 ?_) | (with_reducible refine stop_store27 ?_))
                  (with_reducible refine ⟨?_⟩); (with_reducible refine at_any ?_ ?_); (focus go_simp); refine fun K hK => wp_ldr _ _ O rfl rfl A4.out (hK _ _ ?_)
                  clear hK
                  go_wp2_with (first | (with_reducible refine stop_load25 ?_) | (with_reducible refine stop_store25 ?_) | (with_reducible refine stop_load27 ?_) | (with_reducible refine stop_store27 ?_))
                  refine (S2.out _).mono ?_
                  rintro e w5 ⟨rfl, x5⟩
                  have bd5 := bd4.trans (x5.mono (Nat.le_trans hD.out bd4.size))
                  clear A4 bd4 x5 S2
                  go_wp2_with (first | (with_reducible refine stop_load25 ?_) | (with_reducible refine stop_store25 ?_) | (with_reducible refine stop_load27 ?_) | (with_reducible refine stop_store27 ?_))
                  have r6 := Lib.hid (a6.out.under bd5 (Nat.lt_succ_of_lt hBD.out))
                  have r9 := Lib.hid (a9.out.under bd5 (Nat.lt_succ_self _))
                  have rD := Lib.hid (Nat.lt_of_lt_of_le hD.out bd5.size)
                  have rw5 : Below B w w5 := bw.trans (bd5.mono (Nat.le_succ_of_le (Nat.le_of_lt hBD.out)))
                  clear bd5 a6 a9 hD bw
                  go_roundw
                  case rel => exact ⟨p + 1, by have := HPV.out; omega, by rw [show pv + 1 = ((p + 1 : Nat) : Int) - 1 by have := HPV.out; omega], r6, r9, rD, rw5⟩
                  case measure => have := HPV.out; simp [intOf]; omega
                · go_wp2_with fail
                  go_roundw
                  case rel => exact ⟨m + 1, by omega, by go_num, a6, a9, hD, bw⟩
                  case measure => simp [intOf]; omega
            · go_wp2_with fail
              go_roundw
              case rel => exact ⟨j + 1, by omega, by go_num, a6, a9, hD, bw⟩
              case measure => simp [intOf]; omega
        · go_wp2_with fail
          go_roundw
          case rel => exact ⟨k + 1, by omega, by go_num, a6, Lib.hid (Nat.lt_trans hBD.out hD.out), bw⟩
          case measure => simp [intOf]; omega
    · go_wp2_with fail
      refine (C4.out _).mono ?_
      rintro e w8 ⟨rfl, x8⟩
      have bw8 : Below B w w8 := bw.trans (x8.mono (Nat.le_of_lt hB.out))
      go_wp2_with fail
      go_ret
      rw [HB.out] at bw8
      exact ⟨rfl, bw8⟩
end Go.Proofs.Ytlebanghcbkejaa
