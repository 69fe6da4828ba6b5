/- roster.Follows -/
import Derived.Test.YtgoiidpcdifojaaRoI
namespace Go.Proofs.Ytgoiidpcdifojaa
open Go.RowKit
def stepB (va : Int) (la : List Int) (vb : Int) (lb : List Int) (m : Int) : Bool :=
  (withB va la m && sameB (withV va la m) (withL va la m) vb lb) || (lessB va la m && sameB (lessV va la m) (lessL va la m) vb lb)
def followsB (va : Int) (la : List Int) (vb : Int) (lb : List Int) : Bool := (List.range 8).any fun m : Nat => stepB va la vb lb (m : Int)
theorem withL_len (v : Int) (l : List Int) (x : Int) : (withL v l x).length ≤ 8 := by
  unfold withL
  split
  · unfold nextL
    split
    · rename_i h; exact (right_len h).2.2.2.1
    · simp
  · simp
theorem lessL_len (v : Int) (l : List Int) (x : Int) : (lessL v l x).length ≤ 8 := by
  unfold lessL
  split
  · unfold nextL
    split
    · rename_i h; exact (right_len h).2.2.2.1
    · simp
  · simp
set_option maxHeartbeats 8000000 in
set_option maxRecDepth 100000 in
theorem follows_any (va vb : Int) (p q : Pt) (w : World) (hp : p.In w w.heap.size) (hq : q.In w w.heap.size) (hL : q.l.length ≤ 9223372036854775807) :
    Calls Try.prog 28 #[LV va p, LV vb q] w fun e w' => e = .returned (.bool (followsB va p.l vb q.l)) ∧ Below w.heap.size w w' := by
  have PI := Lib.hid (fun (W : World) (h : Ex w W) => hp.ext h)
  have QI := Lib.hid (fun (W : World) (h : Ex w W) => hq.ext h)
  have WW := Lib.hid (fun (m : Nat) (W : World) (h : Ex w W) => with_any va p (m : Int) W (hp.ext h))
  have LL := Lib.hid (fun (m : Nat) (W : World) (h : Ex w W) => less_any' va p (m : Int) W (hp.ext h))
  have SS := Lib.hid (fun (v : Int) (r : Pt) (W : World) (hr : r.In W W.heap.size) (h8 : r.l.length ≤ 8) (hqW : q.In W W.heap.size) => rsame_any v vb r q W hr hqW (by omega) hL)
  have FT := Lib.hid (show ∀ k : Nat, k < 8 → stepB va p.l vb q.l (k : Int) = true → followsB va p.l vb q.l = true from fun k hk h => List.any_eq_true.2 ⟨k, List.mem_range.2 hk, h⟩)
  have FF := Lib.hid (show (∀ k : Nat, k < 8 → stepB va p.l vb q.l (k : Int) = false) → followsB va p.l vb q.l = false from fun h => List.any_eq_false.2 fun k hk => by rw [h k (List.mem_range.1 hk)]; simp)
  generalize followsB va p.l vb q.l = fb at *
  have b0 : Hid (LB ((w.alloc (.cells #[.int .u64 va, p.V] 45)).alloc (.cells #[.int .u64 vb, q.V] 45)) w.heap.size va p) := Lib.hid ((Bk.new rfl _ _).more _)
  have b1 : Hid (LB ((w.alloc (.cells #[.int .u64 va, p.V] 45)).alloc (.cells #[.int .u64 vb, q.V] 45)) (w.heap.size + 1) vb q) := Lib.hid (Bk.new (by simp) _ _)
  have BW := Lib.hid (show Ex w ((w.alloc (.cells #[.int .u64 va, p.V] 45)).alloc (.cells #[.int .u64 vb, q.V] 45)) from ((Below.refl _ _).alloc (Nat.le_refl _) _).alloc (by simp) _)
  rw [show (Calls Try.prog 28 #[LV va p, LV vb q] w) = (Calls Try.prog 28 #[.agg #[.int .u64 va, p.V], .agg #[.int .u64 vb, q.V]] w) from rfl]
  clear hp hq hL
  go_enter Try.func28, Try.ntmps28
  go_wp2_with (first | (with_reducible refine stop_load45 ?_) | (with_reducible refine stop_store45 ?_))
  have bw := BW.out
  generalize hw1 : (w.alloc (.cells #[.int .u64 va, p.V] 45)).alloc (.cells #[.int .u64 vb, q.V] 45) = w1 at *
  obtain ⟨B, hB⟩ : ∃ B, B = w.heap.size := ⟨_, rfl⟩
  rw [← hB] at b0 b1 ⊢
  have HB := Lib.hid hB
  have bw0 : Ex w w1 := bw
  clear hw1 hB BW bw
  go_loopw [10] (fun i wr => ∃ k : Nat, k ≤ 8 ∧ i = .int .i64 k ∧ Hid (∀ j : Nat, j < k → stepB va p.l vb q.l (j : Int) = false) ∧ Hid (LB wr B va p) ∧ Hid (LB wr (B + 1) vb q) ∧ Ex w wr) (fun i _ => 8 - (intOf i).toNat)
  case atStart => exact ⟨0, by omega, rfl, Lib.hid fun j hj => by omega, b0, b1, bw0⟩
  case round =>
    clear b0 b1 bw0
    obtain ⟨k, hk, rfl, ok, A, Bq, bw⟩ := hrel
    by_cases hlt : k < 8
    · have q0 : (0 : Int) ≤ (k : Int) := by omega
      have q1 : (k : Int) < 8 := by omega
      have SB := Lib.hid (show stepB va p.l vb q.l (k : Int) = ((withB va p.l k && sameB (withV va p.l k) (withL va p.l k) vb q.l) || (lessB va p.l k && sameB (lessV va p.l k) (lessL va p.l k) vb q.l)) from rfl)
      have W1 := Lib.hid (WW.out k)
      have L1 := Lib.hid (LL.out k)
      have N1 := Lib.hid (withL_len va p.l k)
      have N2 := Lib.hid (lessL_len va p.l k)
      generalize withB va p.l k = c1 at *
      generalize withV va p.l k = V1 at *
      generalize withL va p.l k = Y1 at *
      generalize lessB va p.l k = b2 at *
      generalize lessV va p.l k = V2 at *
      generalize lessL va p.l k = Y2 at *
      go_wp2_with (first | (with_reducible refine stop_load45 ?_) | (with_reducible refine stop_store45 ?_))
      (with_reducible refine ⟨?_⟩); (with_reducible refine at_any ?_ ?_); (focus go_simp); refine fun K hK => wp_ld45 _ B va p rfl rfl A.out (hK _ _ ?_)
      clear hK
      go_wp2_with (first | (with_reducible refine stop_load45 ?_) | (with_reducible refine stop_store45 ?_))
      refine (W1.out _ bw).mono ?_
      rintro e w2 ⟨r1, rfl, hl1, i1, x2⟩
      go_wp2_with (first | (with_reducible refine stop_load45 ?_) | (with_reducible refine stop_store45 ?_))
      (with_reducible refine ⟨?_⟩); (with_reducible refine at_any ?_ ?_); (focus go_simp); refine fun K hK => wp_st45 _ _ w2.heap.size V1 0 r1 nilP rfl rfl rfl (Bk.new rfl _ _) (fun w3 hd ho => hK _ _ ?_)
      have x23 := Ex.trans x2 ho.ex
      have J1 := Lib.hid ((i1.ext ((Below.refl _ _).alloc (Nat.le_refl _) _)).st (n := 0) (q := nilP) ho (Bk.new rfl _ _))
      have A3 := Lib.hid (LB.ext A.out x23)
      have B3 := Lib.hid (LB.ext Bq.out x23)
      have bw3 := Ex.trans bw x23
      generalize w2.heap.size = g1 at hd ⊢
      have G1 := Lib.hid hd
      clear hK ho hd x2 x23 i1 W1 A Bq bw
      go_wp2_with (first | (with_reducible refine stop_load45 ?_) | (with_reducible refine stop_store45 ?_))
      (with_reducible refine ⟨?_⟩); (with_reducible refine at_any ?_ ?_); (focus go_simp); refine fun K hK => wp_ld45 _ B va p rfl rfl A3.out (hK _ _ ?_)
      clear hK
      go_wp2_with (first | (with_reducible refine stop_load45 ?_) | (with_reducible refine stop_store45 ?_))
      refine (L1.out _ bw3).mono ?_
      rintro e w4 ⟨r2, rfl, hl2, i2, x4⟩
      go_wp2_with (first | (with_reducible refine stop_load45 ?_) | (with_reducible refine stop_store45 ?_))
      (with_reducible refine ⟨?_⟩); (with_reducible refine at_any ?_ ?_); (focus go_simp); refine fun K hK => wp_st45 _ _ w4.heap.size V2 0 r2 nilP rfl rfl rfl (Bk.new rfl _ _) (fun w5 hd ho => hK _ _ ?_)
      have x45 := Ex.trans x4 ho.ex
      have J2 := Lib.hid ((i2.ext ((Below.refl _ _).alloc (Nat.le_refl _) _)).st (n := 0) (q := nilP) ho (Bk.new rfl _ _))
      have A := Lib.hid (LB.ext A3.out x45)
      have Bq := Lib.hid (LB.ext B3.out x45)
      have G1' := Lib.hid (LB.ext G1.out x45)
      have J1' := Lib.hid (Pt.In.ext J1.out x45)
      have bw := Ex.trans bw3 x45
      generalize w4.heap.size = g2 at hd ⊢
      have G2 := Lib.hid hd
      clear hK ho hd x4 x45 i2 L1 A3 B3 bw3 G1 J1
      have S1 := Lib.hid (fun W hr hqW => SS.out V1 r1 W hr (by rw [hl1]; exact N1.out) hqW)
      have S2 := Lib.hid (fun W hr hqW => SS.out V2 r2 W hr (by rw [hl2]; exact N2.out) hqW)
      rw [hl1] at S1
      rw [hl2] at S2
      generalize sameB V1 Y1 vb q.l = s1 at *
      generalize sameB V2 Y2 vb q.l = s2 at *
      clear hl1 hl2 N1 N2
      cases hc1 : c1
      · subst hc1
        go_wp2_with (first | (with_reducible refine stop_load45 ?_) | (with_reducible refine stop_store45 ?_))
        (with_reducible refine ⟨?_⟩); (with_reducible refine at_not ?_ ?_); (focus go_simp)
        go_wp2_with (first | (with_reducible refine stop_load45 ?_) | (with_reducible refine stop_store45 ?_))
        (with_reducible refine ⟨?_⟩); (with_reducible refine at_not ?_ ?_); (focus go_simp)
        cases hb2 : b2
        · have R := Lib.hid (show stepB va p.l vb q.l (k : Int) = false by rw [SB.out]; rw [hb2]; rfl)
          have ok' : Hid (∀ j : Nat, j < k + 1 → stepB va p.l vb q.l (j : Int) = false) := Lib.hid fun j hj => by
            by_cases e : j = k
            · subst e; exact R.out
            · exact ok.out j (by omega)
          subst hb2
          go_wp2_with (first | (with_reducible refine stop_load45 ?_) | (with_reducible refine stop_store45 ?_))
          (with_reducible refine ⟨?_⟩); (with_reducible refine at_not ?_ ?_); (focus go_simp)
          go_wp2_with (first | (with_reducible refine stop_load45 ?_) | (with_reducible refine stop_store45 ?_))
          (with_reducible refine ⟨?_⟩); (with_reducible refine at_not ?_ ?_); (focus go_simp)
          go_wp2_with (first | (with_reducible refine stop_load45 ?_) | (with_reducible refine stop_store45 ?_))
          go_roundw
          case rel => exact ⟨k + 1, by omega, by go_num, ok', A, Bq, bw⟩
          case measure => simp [intOf]; omega
        · subst hb2
          go_wp2_with (first | (with_reducible refine stop_load45 ?_) | (with_reducible refine stop_store45 ?_))
          (with_reducible refine ⟨?_⟩); (with_reducible refine at_any ?_ ?_); (focus go_simp); refine fun K hK => wp_ld45 _ g2 V2 r2 rfl rfl G2.out (hK _ _ ?_)
          clear hK
          go_wp2_with (first | (with_reducible refine stop_load45 ?_) | (with_reducible refine stop_store45 ?_))
          (with_reducible refine ⟨?_⟩); (with_reducible refine at_any ?_ ?_); (focus go_simp); refine fun K hK => wp_ld45 _ (B + 1) vb q rfl rfl Bq.out (hK _ _ ?_)
          clear hK
          go_wp2_with (first | (with_reducible refine stop_load45 ?_) | (with_reducible refine stop_store45 ?_))
          refine (S2.out _ J2.out (QI.out _ bw)).mono ?_
          rintro e w9 ⟨rfl, x9⟩
          have A' := Lib.hid (LB.ext A.out x9)
          have Bq' := Lib.hid (LB.ext Bq.out x9)
          have bw' := Ex.trans bw x9
          cases hs2 : s2
          · have R := Lib.hid (show stepB va p.l vb q.l (k : Int) = false by rw [SB.out]; rw [hs2]; rfl)
            have ok' : Hid (∀ j : Nat, j < k + 1 → stepB va p.l vb q.l (j : Int) = false) := Lib.hid fun j hj => by
              by_cases e : j = k
              · subst e; exact R.out
              · exact ok.out j (by omega)
            subst hs2
            go_wp2_with (first | (with_reducible refine stop_load45 ?_) | (with_reducible refine stop_store45 ?_))
            go_roundw
            case rel => exact ⟨k + 1, by omega, by go_num, ok', A', Bq', bw'⟩
            case measure => simp [intOf]; omega
          · have R := Lib.hid (FT.out k (by omega) (by rw [SB.out]; rw [hs2]; rfl))
            subst hs2
            go_wp2_with (first | (with_reducible refine stop_load45 ?_) | (with_reducible refine stop_store45 ?_))
            go_ret
            exact ⟨ret_eq (congrArg Value.bool R.out.symm), bw'⟩
        
      · subst hc1
        go_wp2_with (first | (with_reducible refine stop_load45 ?_) | (with_reducible refine stop_store45 ?_))
        (with_reducible refine ⟨?_⟩); (with_reducible refine at_any ?_ ?_); (focus go_simp); refine fun K hK => wp_ld45 _ g1 V1 r1 rfl rfl G1'.out (hK _ _ ?_)
        clear hK
        go_wp2_with (first | (with_reducible refine stop_load45 ?_) | (with_reducible refine stop_store45 ?_))
        (with_reducible refine ⟨?_⟩); (with_reducible refine at_any ?_ ?_); (focus go_simp); refine fun K hK => wp_ld45 _ (B + 1) vb q rfl rfl Bq.out (hK _ _ ?_)
        clear hK
        go_wp2_with (first | (with_reducible refine stop_load45 ?_) | (with_reducible refine stop_store45 ?_))
        refine (S1.out _ J1'.out (QI.out _ bw)).mono ?_
        rintro e w6 ⟨rfl, x6⟩
        replace A := Lib.hid (LB.ext A.out x6)
        replace Bq := Lib.hid (LB.ext Bq.out x6)
        replace G2 := Lib.hid (LB.ext G2.out x6)
        replace J2 := Lib.hid (Pt.In.ext J2.out x6)
        replace bw := Ex.trans bw x6
        clear x6 G1' J1' S1
        cases hs1 : s1
        · subst hs1
          cases hb2 : b2
          · have R := Lib.hid (show stepB va p.l vb q.l (k : Int) = false by rw [SB.out]; rw [hb2]; rfl)
            have ok' : Hid (∀ j : Nat, j < k + 1 → stepB va p.l vb q.l (j : Int) = false) := Lib.hid fun j hj => by
              by_cases e : j = k
              · subst e; exact R.out
              · exact ok.out j (by omega)
            subst hb2
            go_wp2_with (first | (with_reducible refine stop_load45 ?_) | (with_reducible refine stop_store45 ?_))
            (with_reducible refine ⟨?_⟩); (with_reducible refine at_not ?_ ?_); (focus go_simp)
            go_wp2_with (first | (with_reducible refine stop_load45 ?_) | (with_reducible refine stop_store45 ?_))
            (with_reducible refine ⟨?_⟩); (with_reducible refine at_not ?_ ?_); (focus go_simp)
            go_wp2_with (first | (with_reducible refine stop_load45 ?_) | (with_reducible refine stop_store45 ?_))
            go_roundw
            case rel => exact ⟨k + 1, by omega, by go_num, ok', A, Bq, bw⟩
            case measure => simp [intOf]; omega
          · subst hb2
            go_wp2_with (first | (with_reducible refine stop_load45 ?_) | (with_reducible refine stop_store45 ?_))
            (with_reducible refine ⟨?_⟩); (with_reducible refine at_any ?_ ?_); (focus go_simp); refine fun K hK => wp_ld45 _ g2 V2 r2 rfl rfl G2.out (hK _ _ ?_)
            clear hK
            go_wp2_with (first | (with_reducible refine stop_load45 ?_) | (with_reducible refine stop_store45 ?_))
            (with_reducible refine ⟨?_⟩); (with_reducible refine at_any ?_ ?_); (focus go_simp); refine fun K hK => wp_ld45 _ (B + 1) vb q rfl rfl Bq.out (hK _ _ ?_)
            clear hK
            go_wp2_with (first | (with_reducible refine stop_load45 ?_) | (with_reducible refine stop_store45 ?_))
            refine (S2.out _ J2.out (QI.out _ bw)).mono ?_
            rintro e w9 ⟨rfl, x9⟩
            have A' := Lib.hid (LB.ext A.out x9)
            have Bq' := Lib.hid (LB.ext Bq.out x9)
            have bw' := Ex.trans bw x9
            cases hs2 : s2
            · have R := Lib.hid (show stepB va p.l vb q.l (k : Int) = false by rw [SB.out]; rw [hs2]; rfl)
              have ok' : Hid (∀ j : Nat, j < k + 1 → stepB va p.l vb q.l (j : Int) = false) := Lib.hid fun j hj => by
                by_cases e : j = k
                · subst e; exact R.out
                · exact ok.out j (by omega)
              subst hs2
              go_wp2_with (first | (with_reducible refine stop_load45 ?_) | (with_reducible refine stop_store45 ?_))
              go_roundw
              case rel => exact ⟨k + 1, by omega, by go_num, ok', A', Bq', bw'⟩
              case measure => simp [intOf]; omega
            · have R := Lib.hid (FT.out k (by omega) (by rw [SB.out]; rw [hs2]; rfl))
              subst hs2
              go_wp2_with (first | (with_reducible refine stop_load45 ?_) | (with_reducible refine stop_store45 ?_))
              go_ret
              exact ⟨ret_eq (congrArg Value.bool R.out.symm), bw'⟩
          
        · have R := Lib.hid (FT.out k (by omega) (by rw [SB.out, hs1]; rfl))
          subst hs1
          go_wp2_with (first | (with_reducible refine stop_load45 ?_) | (with_reducible refine stop_store45 ?_))
          go_ret
          exact ⟨ret_eq (congrArg Value.bool R.out.symm), bw⟩
    · obtain rfl : k = 8 := by omega
      have R := Lib.hid (FF.out ok.out)
      go_wp2_with (first | (with_reducible refine stop_load45 ?_) | (with_reducible refine stop_store45 ?_))
      go_ret
      exact ⟨ret_eq (congrArg Value.bool R.out.symm), bw⟩
end Go.Proofs.Ytgoiidpcdifojaa
