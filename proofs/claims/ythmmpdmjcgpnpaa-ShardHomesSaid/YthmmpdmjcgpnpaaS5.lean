/- walks: the law ShardHomes -/
import Derived.Test.YthmmpdmjcgpnpaaS4
import Derived.OneCell
import Derived.WalkSmall
namespace Go.Proofs.Ythmmpdmjcgpnpaa
open Go.RowKit
theorem owns_below {w w' : World} {base : Nat} {e : TypeId} {size : Nat} {v : Value} {n : Nat} {xs : List Value} (h : w.ownsRow base e size v n xs) {B : Nat} (hb : Below B w w')
    (hB : ∀ k, v.ownBlock = some k → k < B) : w'.ownsRow base e size v n xs := by
  obtain ⟨h1, h2⟩ := h
  refine ⟨h1, ?_⟩
  rcases h2 with h2 | ⟨g, cap, cur, hv, hg, hh, r⟩
  · exact Or.inl h2
  · exact Or.inr ⟨g, cap, cur, hv, hg, by rw [hb.block g (hB g (by rw [hv]; rfl))]; exact hh, r⟩
def cnt (N j c : Nat) : Nat := ((List.range j).filter fun i => i % N == c).length
theorem cnt_succ (N j c : Nat) : cnt N (j + 1) c = cnt N j c + if j % N = c then 1 else 0 := by
  unfold cnt
  rw [List.range_succ, List.filter_append, List.length_append]
  by_cases h : j % N = c <;> simp [h]
theorem cnt_le (N j c : Nat) : cnt N j c ≤ j := by
  unfold cnt
  have := List.length_filter_le (fun i => i % N == c) (List.range j)
  simpa using this
def countC (N j : Nat) : List Value := (List.range N).map fun c => .int .i64 (cnt N j c : Nat)
theorem countC_length (N j : Nat) : (countC N j).length = N := by simp [countC]
theorem countC_at (N j c : Nat) (h : c < N) : (countC N j)[c]? = some (.int .i64 (cnt N j c : Nat)) := by simp [countC, h]
theorem countC_zero (N : Nat) : List.replicate N (Value.int .i64 0) = countC N 0 := by
  unfold countC cnt; simp [List.map_const']
theorem countC_set (N j : Nat) (h : 0 < N) : (countC N j).set (j % N) (.int .i64 ((cnt N j (j % N) : Nat) + 1)) = countC N (j + 1) := by
  apply List.ext_getElem?
  intro k
  have hr := Nat.mod_lt j h
  by_cases hk : k < N
  · rw [List.getElem?_set, countC_at _ _ _ hk, countC_at _ _ _ hk, countC_length, cnt_succ]
    by_cases e : j % N = k
    · subst e; simp [hr]
    · simp [e]
  · rw [List.getElem?_eq_none (by simp [countC_length]; omega), List.getElem?_eq_none (by simp [countC_length]; omega)]
theorem cnt_fin : ∀ N : Nat, 1 ≤ N → N ≤ 8 → ∀ c, c < N → 16 / N ≤ cnt N 16 c ∧ cnt N 16 c ≤ (16 + N - 1) / N := by
  intro N h1 h2
  have hN : N = 1 ∨ N = 2 ∨ N = 3 ∨ N = 4 ∨ N = 5 ∨ N = 6 ∨ N = 7 ∨ N = 8 := by omega
  rcases hN with rfl | rfl | rfl | rfl | rfl | rfl | rfl | rfl <;> decide
set_option maxHeartbeats 4000000 in
set_option maxRecDepth 100000 in
theorem homes_walk (m : Int) (w : World) (_hm : (Lit.int .i64 m).wf = true) :
    Calls Try.prog 9 #[.int .i64 m] w fun e w' => e = .returned (.bool true) ∧ Below w.heap.size w w' := by
  clear _hm
  obtain ⟨i0, hi, hz0, hz1, hz2⟩ := info_parts Try.info3
  obtain ⟨B, hB⟩ : ∃ B, B = w.heap.size := ⟨_, rfl⟩
  rw [← hB]
  go_enter Try.func9, Try.ntmps9
  go_wp2_with fail
  refine (within18_any m _).mono ?_
  rintro e w1 ⟨n, rfl, n1, n8, rfl⟩
  obtain ⟨N, rfl⟩ := Int.eq_ofNat_of_zero_le (show 0 ≤ n by omega)
  have N1 : 1 ≤ N := by omega
  have N8 : N ≤ 8 := by omega
  go_wp2_with (at_make; refine wpList_make_full _ rfl _ _ 31 rfl B 3 i0 (.int .i64 0) 1 Try.underlying31 hi hz0 hz1 _ _ _ _ N rfl rfl rfl rfl (by rw [hz2]; omega) (by unfold maxLen; omega) (by rw [hB]; exact Nat.le_refl _) ?_; intro w1 hown hgrow)
  rw [← hB]
  rw [made_ints, countC_zero, ← hB] at hown
  have hbl0 : Below B w w1 := by rw [hB]; exact (Below.refl _ _).grown hgrow (Nat.le_refl _) (by intro k hk; cases hk)
  have hBw := (hown.lt B rfl).2
  have hown := Lib.hid hown
  clear hgrow
  refine (home_any N _).mono ?_
  obtain ⟨H, hH⟩ : ∃ H, H = w1.heap.size := ⟨_, rfl⟩
  rw [← hH]
  rintro e w2 ⟨rfl, hrow, hbl1⟩
  have hc2 := owns_below hown.out hbl1 (by intro k hk; simp [Value.ownBlock] at hk; omega)
  have hbl2 : Below B w w2 := hbl0.trans (hbl1.mono (by omega))
  have hBH : B < H := by omega
  clear hown hbl0 hbl1 hBw
  have HH := Lib.hid hH
  have HB := Lib.hid hB
  have HR := Lib.hid (And.intro hrow (And.intro hc2 hbl2))
  clear hH hB hrow hc2 hbl2
  go_wp2
  go_loopw [6, 15] (fun _ i wr => ∃ j : Nat, j ≤ 16 ∧ i = .int .i64 j ∧ wr.ownsRow H 3 1 (.slice (some ⟨H, 0, none⟩) 16 16) 16 (homeC N 16) ∧ wr.ownsRow B 3 1 (.slice (some ⟨B, 0, none⟩) N N) N (countC N j) ∧ Below B w wr) (fun _ i _ => 16 - (intOf i).toNat)
  case atStart => exact ⟨0, Nat.zero_le _, rfl, HR.out.1, HR.out.2.1, HR.out.2.2⟩
  case round =>
    obtain ⟨j, hj, rfl, hrow, hcnt, hbl⟩ := hrel
    by_cases hlt : j < 16
    · have q0 : (0 : Int) ≤ (j : Int) := by omega
      have q1 : (j : Int) < 16 := by omega
      obtain ⟨r, hr⟩ : ∃ r, r = j % N := ⟨_, rfl⟩
      have hrN : r < N := by rw [hr]; exact Nat.mod_lt _ (by omega)
      have d0 : wr.cell? ⟨H, j, none⟩ = some (.int .i64 (r : Nat)) := by
        rw [hrow.cellAt j (by omega), homeC_at _ _ _ hlt, if_pos hlt, first_at (by omega) (by omega) (N : Int) (by unfold clampM; rw [if_neg (by omega), if_neg (by omega)]), hr, Int.natCast_emod]
      have d1 : wr.cell? ⟨B, r, none⟩ = some (.int .i64 (cnt N j r : Nat)) := by rw [hcnt.cellAt r (by omega), countC_at _ _ _ hrN]
      have hfr := hcnt.frozenAt r
      have hst := hcnt.stored r (.int .i64 ((cnt N j r : Nat) + 1))
      rw [hr, countC_set _ _ (by omega), ← hr] at hst
      have hrow2 := ownsRow_setCell_other hrow (a := ⟨B, r, none⟩) (by simp [Value.ownBlock]; omega) (.int .i64 ((cnt N j r : Nat) + 1))
      have hbl2 : Below B w (wr.setCell ⟨B, r, none⟩ (.int .i64 ((cnt N j r : Nat) + 1))) := hbl.setCell (p := ⟨B, r, none⟩) (Nat.le_refl _) _
      have hcl := cnt_le N j r
      obtain ⟨x, hx⟩ : ∃ x, x = cnt N j r := ⟨_, rfl⟩
      rw [← hx] at d1 hst hrow2 hbl2 hcl
      have HST := Lib.hid (And.intro hrow2 (And.intro hst.1 hbl2))
      have s1 : (r : Int) < (N : Int) := by omega
      have s2 : (0 : Int) ≤ (r : Int) := by omega
      clear hst hbl2 hrow2 hrow hcnt hbl hr hx HR
      go_wp2
      go_roundw
      case rel => exact ⟨j + 1, by omega, by go_num, HST.out.1, HST.out.2.1, HST.out.2.2⟩
      case measure => simp [intOf]; omega
    · obtain rfl : j = 16 := by omega
      have HC := Lib.hid (And.intro hcnt hbl)
      clear hrow hcnt hbl HR
      go_wp2
      go_loopw [7] (fun i wr => ∃ j : Nat, j ≤ N ∧ i = .int .i64 j ∧ wr.ownsRow B 3 1 (.slice (some ⟨B, 0, none⟩) N N) N (countC N 16) ∧ Below B w wr) (fun i _ => N - (intOf i).toNat)
      case atStart => exact ⟨0, Nat.zero_le _, rfl, HC.out.1, HC.out.2⟩
      case round =>
        obtain ⟨c, hc, rfl, hcnt, hbl⟩ := hrel
        by_cases hlt : c < N
        · have q0 : (0 : Int) ≤ (c : Int) := by omega
          have q1 : (c : Int) < (N : Int) := by omega
          obtain ⟨x, hx⟩ : ∃ x, x = cnt N 16 c := ⟨_, rfl⟩
          obtain ⟨c1, c2⟩ := cnt_fin N N1 N8 c hlt
          rw [← hx] at c1 c2
          have d1 : wr.cell? ⟨B, c, none⟩ = some (.int .i64 (x : Nat)) := by rw [hcnt.cellAt c (by omega), countC_at _ _ _ hlt, hx]
          have HX := Lib.hid (And.intro hcnt hbl)
          clear hcnt hbl hx HC
          have hN : N = 1 ∨ N = 2 ∨ N = 3 ∨ N = 4 ∨ N = 5 ∨ N = 6 ∨ N = 7 ∨ N = 8 := by omega
          rcases hN with rfl | rfl | rfl | rfl | rfl | rfl | rfl | rfl
          all_goals (simp only [Nat.reduceDiv, Nat.reduceAdd, Nat.reduceSub] at c1 c2)
          · have c3 : decide ((x : Int) < 16) = false := by simp; omega
            have c4 : decide ((x : Int) > 16) = false := by simp; omega
            go_wp2
            go_quiet (fail)
            go_wp2
            go_roundw
            case rel => exact ⟨c + 1, by omega, by go_num, HX.out.1, below_drewN HX.out.2 _⟩
            case measure => simp [intOf]; omega
          · have c3 : decide ((x : Int) < 8) = false := by simp; omega
            have c4 : decide ((x : Int) > 8) = false := by simp; omega
            go_wp2
            go_quiet (fail)
            go_wp2
            go_roundw
            case rel => exact ⟨c + 1, by omega, by go_num, HX.out.1, below_drewN HX.out.2 _⟩
            case measure => simp [intOf]; omega
          · have c3 : decide ((x : Int) < 5) = false := by simp; omega
            have c4 : decide ((x : Int) > 6) = false := by simp; omega
            go_wp2
            go_quiet (fail)
            go_wp2
            go_roundw
            case rel => exact ⟨c + 1, by omega, by go_num, HX.out.1, below_drewN HX.out.2 _⟩
            case measure => simp [intOf]; omega
          · have c3 : decide ((x : Int) < 4) = false := by simp; omega
            have c4 : decide ((x : Int) > 4) = false := by simp; omega
            go_wp2
            go_quiet (fail)
            go_wp2
            go_roundw
            case rel => exact ⟨c + 1, by omega, by go_num, HX.out.1, below_drewN HX.out.2 _⟩
            case measure => simp [intOf]; omega
          · have c3 : decide ((x : Int) < 3) = false := by simp; omega
            have c4 : decide ((x : Int) > 4) = false := by simp; omega
            go_wp2
            go_quiet (fail)
            go_wp2
            go_roundw
            case rel => exact ⟨c + 1, by omega, by go_num, HX.out.1, below_drewN HX.out.2 _⟩
            case measure => simp [intOf]; omega
          · have c3 : decide ((x : Int) < 2) = false := by simp; omega
            have c4 : decide ((x : Int) > 3) = false := by simp; omega
            go_wp2
            go_quiet (fail)
            go_wp2
            go_roundw
            case rel => exact ⟨c + 1, by omega, by go_num, HX.out.1, below_drewN HX.out.2 _⟩
            case measure => simp [intOf]; omega
          · have c3 : decide ((x : Int) < 2) = false := by simp; omega
            have c4 : decide ((x : Int) > 3) = false := by simp; omega
            go_wp2
            go_quiet (fail)
            go_wp2
            go_roundw
            case rel => exact ⟨c + 1, by omega, by go_num, HX.out.1, below_drewN HX.out.2 _⟩
            case measure => simp [intOf]; omega
          · have c3 : decide ((x : Int) < 2) = false := by simp; omega
            have c4 : decide ((x : Int) > 2) = false := by simp; omega
            go_wp2
            go_quiet (fail)
            go_wp2
            go_roundw
            case rel => exact ⟨c + 1, by omega, by go_num, HX.out.1, below_drewN HX.out.2 _⟩
            case measure => simp [intOf]; omega
        · obtain rfl : c = N := by omega
          clear HC
          go_wp2_with fail
          refine (known13_any _).mono ?_
          rintro e w1 ⟨rfl, b1⟩
          go_wp2_with fail
          go_ret
          exact ⟨rfl, hbl.trans (b1.mono (by have := (hcnt.lt B rfl).2; omega))⟩
end Go.Proofs.Ythmmpdmjcgpnpaa
