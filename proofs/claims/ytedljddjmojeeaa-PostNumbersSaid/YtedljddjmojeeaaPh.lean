/- PostFull walked -/
import Derived.Test.YtedljddjmojeeaaPg
namespace Go.Proofs.Ytedljddjmojeeaa
open Go.RowKit
/-- an office of n letters, none of them held -/
def FO (w : World) (O n : Nat) : Prop := ∃ l, OF w O l ∧ l.length = n ∧ ∀ x ∈ l, x.1 = false
theorem FO.ext {w w' : World} {O n : Nat} (h : FO w O n) (k : Ex w w') : FO w' O n := by
  obtain ⟨l, h1, h2⟩ := h; exact ⟨l, h1.ext k, h2⟩
def ltn (i : Int) : Lt := ⟨0, 0, i, nilB⟩
theorem ltn_built (i : Int) : Try.prog.built 70 [(2, .int .i64 i)] = some (ltn i).C.toArray := by kernel_rfl
def NPost (O n : Nat) (b : Bool) (w : World) (e : Ending) (w' : World) : Prop := e = .returned (.bool b) ∧ FO w' O n ∧ FT O w w'
theorem ltn_ok (i : Nat) (hi : i ≤ 1000000) : (ltn i).Ok := ⟨by show (_ : Int) ≤ 0; omega, by show (0 : Int) ≤ _; omega, by show (_ : Int) ≤ 0; omega, by show (0 : Int) ≤ _; omega, by show (_ : Int) ≤ (i : Int); omega, by show (i : Int) ≤ _; omega⟩
theorem fo_put_yes (O n i : Nat) (hi : i ≤ 1000000) (w : World) (h : FO w O n) (hn : n < 64) : Calls Try.prog 31 #[.pointer (some ⟨O, 0, none⟩), (ltn i).V] w (NPost O (n + 1) true w) := by
  obtain ⟨l, h1, rfl, h3⟩ := h
  have e : canPut l.length (ltn i).bs.l.length = true := by
    unfold canPut; rw [decide_eq_true hn]; rfl
  have := put_any O l (ltn i) w h1 (ltn_ok i hi) (nilB_in _ _) (Nat.zero_le _)
  rw [e, if_pos rfl] at this
  refine this.mono fun e w' ⟨k1, k2, k3⟩ => ⟨k1, ⟨_, k2, by simp, fun x hx => ?_⟩, k3⟩
  rcases List.mem_append.1 hx with hx | hx
  · exact h3 x hx
  · rw [List.mem_singleton.1 hx]
theorem fo_put_no (O n i : Nat) (hi : i ≤ 1000000) (w : World) (h : FO w O n) (hn : ¬ n < 64) : Calls Try.prog 31 #[.pointer (some ⟨O, 0, none⟩), (ltn i).V] w (NPost O n false w) := by
  obtain ⟨l, h1, rfl, h3⟩ := h
  have e : canPut l.length (ltn i).bs.l.length = false := by
    unfold canPut; rw [decide_eq_false hn]; rfl
  have := put_any O l (ltn i) w h1 (ltn_ok i hi) (nilB_in _ _) (Nat.zero_le _)
  rw [e, if_neg (by simp)] at this
  exact this.mono fun e w' ⟨k1, k2, k3⟩ => ⟨k1, ⟨_, k2, rfl, h3⟩, k3⟩
theorem fo_double_none (O : Nat) (w : World) (h : FO w O 0) : Calls Try.prog 40 #[.pointer (some ⟨O, 0, none⟩), .int .i64 0] w (NPost O 0 false w) := by
  obtain ⟨l, h1, h2, h3⟩ := h
  exact (double_none O l 0 w h1 (by rw [h2]; exact Or.inr (Int.le_refl _))).mono fun e w' ⟨k1, k2, k3⟩ => ⟨k1, ⟨_, k2, h2, h3⟩, k3⟩
theorem fo_double_yes (O n : Nat) (w : World) (h : FO w O n) (h0 : 0 < n) (hn : n < 64) : Calls Try.prog 40 #[.pointer (some ⟨O, 0, none⟩), .int .i64 0] w (NPost O (n + 1) true w) := by
  obtain ⟨l, h1, rfl, h3⟩ := h
  have := double_any O l 0 (l[0]).1 (l[0]).2 w h1 (List.getElem?_eq_getElem h0)
  rw [decide_eq_true hn, if_pos rfl] at this
  refine Calls.mono (show Calls Try.prog _ #[.pointer (some ⟨O, 0, none⟩), .int .i64 ((0 : Nat) : Int)] w _ from this) fun e w' ⟨k1, k2, k3⟩ => ⟨k1, ⟨_, k2, by simp, fun x hx => ?_⟩, k3⟩
  rcases List.mem_append.1 hx with hx | hx
  · exact h3 x hx
  · rw [List.mem_singleton.1 hx]
theorem fo_double_no (O n : Nat) (w : World) (h : FO w O n) (h0 : 0 < n) (hn : ¬ n < 64) : Calls Try.prog 40 #[.pointer (some ⟨O, 0, none⟩), .int .i64 0] w (NPost O n false w) := by
  obtain ⟨l, h1, rfl, h3⟩ := h
  have := double_any O l 0 (l[0]).1 (l[0]).2 w h1 (List.getElem?_eq_getElem h0)
  rw [decide_eq_false hn, if_neg (by simp)] at this
  exact Calls.mono (show Calls Try.prog _ #[.pointer (some ⟨O, 0, none⟩), .int .i64 ((0 : Nat) : Int)] w _ from this) fun e w' ⟨k1, k2, k3⟩ => ⟨k1, ⟨_, k2, rfl, h3⟩, k3⟩
def NTake (O n : Nat) (b : Bool) (w : World) (e : Ending) (w' : World) : Prop := ∃ x : Lt, e = .returned (.tuple #[x.V, .bool b]) ∧ x.Ok ∧ FO w' O n ∧ FT O w w'
theorem fo_take_none (O : Nat) (w : World) (h : FO w O 0) : Calls Try.prog 37 #[.pointer (some ⟨O, 0, none⟩), .int .i64 0] w (NTake O 0 false w) := by
  obtain ⟨l, h1, h2, h3⟩ := h
  exact (take_none O l 0 w h1 (by rw [h2]; exact Or.inr (Int.le_refl _))).mono fun e w' ⟨x, k1, _, k2, k3, k4⟩ => ⟨x, k1, k2.1, ⟨_, k3, h2, h3⟩, k4⟩
theorem fo_take_yes (O n : Nat) (w : World) (h : FO w O n) (h0 : 0 < n) : Calls Try.prog 37 #[.pointer (some ⟨O, 0, none⟩), .int .i64 0] w (NTake O (n - 1) true w) := by
  obtain ⟨l, h1, rfl, h3⟩ := h
  have hx : l[0]? = some (false, (l[0]).2) := by
    rw [List.getElem?_eq_getElem h0]
    have := h3 _ (List.getElem_mem h0)
    congr 1
    exact Prod.ext this rfl
  have := take_yes O l 0 (l[0]).2 w h1 hx
  refine Calls.mono (show Calls Try.prog _ #[.pointer (some ⟨O, 0, none⟩), .int .i64 ((0 : Nat) : Int)] w _ from this) fun e w' ⟨x, k1, _, k2, k3, k4⟩ => ⟨x, k1, k2.1, ⟨_, k3, by rw [List.length_eraseIdx_of_lt h0], fun y hy => h3 y (List.mem_of_mem_eraseIdx hy)⟩, k4⟩
theorem fo_len (O n : Nat) (w : World) (h : FO w O n) : Calls Try.prog 38 #[.pointer (some ⟨O, 0, none⟩)] w fun e w' => e = .returned (.int .i64 n) ∧ w' = w := by
  obtain ⟨l, h1, rfl, h3⟩ := h
  exact (lenO_any O l w h1).mono fun e w' ⟨k1, k2⟩ => ⟨k1, k2.symm⟩
/-- a row of bools -/
def BIn (ad : Option Addr) (m : Nat) (B : Nat → Bool) (w : World) : Prop := m ≤ 9223372036854775807 ∧ (0 < m → ∃ a o, ad = some ⟨a, o, none⟩ ∧ a < w.heap.size ∧ ∀ i, i < m → w.cell? ⟨a, o + i, none⟩ = some (.bool (B i)))
set_option maxHeartbeats 4000000 in
set_option maxRecDepth 100000 in
theorem full_any (ad : Option Addr) (cap m : Nat) (B : Nat → Bool) (w : World) (hin : BIn ad m B w) : Calls Try.prog 12 #[.slice ad m cap] w fun e w' => e = .returned (.bool true) ∧ Ex w w' := by
  have HIN := Lib.hid hin
  go_enter Try.func12, Try.ntmps12
  go_wp2_with (first | (with_reducible refine stop_load (t := 70) ?_) | (with_reducible refine stop_store (t := 70) ?_) | (with_reducible refine stop_build (t := 70) ?_))
  refine (pnew_any w).mono ?_
  rintro e w1 ⟨O, rfl, hO, hof, xx⟩
  have HO := Lib.hid hO
  have BW := Lib.hid xx
  have H : Hid (FO w1 O 0) := Lib.hid ⟨[], hof, rfl, fun x hx => absurd hx (by simp)⟩
  have hm := hin.1
  clear hO hof xx hin
  go_wp2_with (first | (with_reducible refine stop_load (t := 70) ?_) | (with_reducible refine stop_store (t := 70) ?_) | (with_reducible refine stop_build (t := 70) ?_))
  go_loopw [4, 5] (fun n i wr => ∃ k : Nat, k ≤ 60 ∧ n = .int .i64 k ∧ i = .int .i64 k ∧ Hid (FO wr O k) ∧ Hid (Ex w wr)) (fun _ i _ => 60 - (intOf i).toNat)
  case atStart => exact ⟨0, by omega, rfl, rfl, H, BW⟩
  case round =>
    clear H BW
    obtain ⟨k, hk, rfl, rfl, H, BW⟩ := hrel
    by_cases hlt : k < 60
    · have q1 : (k : Int) < 60 := by omega
      go_wp2_with (first | (with_reducible refine stop_load (t := 70) ?_) | (with_reducible refine stop_store (t := 70) ?_) | (with_reducible refine stop_build (t := 70) ?_))
      (with_reducible refine ⟨?_⟩); (with_reducible refine at_any ?_ ?_); (focus go_simp); refine fun K0 hK => wp_build _ _ rfl _ (ltn_built k) (hK _ _ ?_)
      clear hK
      go_wp2_with (first | (with_reducible refine stop_load (t := 70) ?_) | (with_reducible refine stop_store (t := 70) ?_) | (with_reducible refine stop_build (t := 70) ?_))
      refine (fo_put_yes O k k (by omega) wr H.out (by omega)).mono ?_
      rintro e w2 ⟨rfl, hof, hft⟩
      replace BW := Lib.hid (Below.trans BW.out (hft.below.mono HO.out))
      replace H := Lib.hid hof
      clear hof hft
      go_wp2_with (first | (with_reducible refine stop_load (t := 70) ?_) | (with_reducible refine stop_store (t := 70) ?_) | (with_reducible refine stop_build (t := 70) ?_))
      go_roundw
      case rel => exact ⟨k + 1, by omega, by go_num, by go_num, H, BW⟩
      case measure => simp [intOf]; omega
    · obtain rfl : k = 60 := by omega
      go_wp2_with (first | (with_reducible refine stop_load (t := 70) ?_) | (with_reducible refine stop_store (t := 70) ?_) | (with_reducible refine stop_build (t := 70) ?_))
      go_loopw [4, 6] (fun n i wr => ∃ k n' : Nat, k ≤ m ∧ k ≤ 60 ∧ n' ≤ 64 ∧ n = .int .i64 n' ∧ i = .int .i64 k ∧ Hid (FO wr O n') ∧ Hid (Ex w wr)) (fun _ i _ => m - (intOf i).toNat)
      case atStart => exact ⟨0, 60, by omega, by omega, by omega, rfl, rfl, H, BW⟩
      case round =>
        clear H BW
        obtain ⟨k, n, hk, hk60, hn64, rfl, rfl, H, BW⟩ := hrel
        by_cases hlt2 : k < m ∧ k < 60
        · obtain ⟨h1, h2⟩ := hlt2
          obtain ⟨a, o, rfl, ha, hc⟩ := HIN.out.2 (by omega)
          have q0 : (0 : Int) ≤ (k : Int) := by omega
          have q1 : (k : Int) < (m : Int) := by omega
          have q2 : (k : Int) < 60 := by omega
          have q3 : ¬ (64 : Int) < ((n : Nat) : Int) := by omega
          have c0 : wr.cell? ⟨a, o + k, none⟩ = some (.bool (B k)) := (Below.cell (p := ⟨a, o + k, none⟩) BW.out ha).trans (hc k h1)
          clear hc ha
          cases hb : B k
          · rw [hb] at c0
            clear hb
            by_cases h0 : 0 < n
            · skip
              have q4 : (0 : Int) < ((n : Nat) : Int) := by omega
              go_wp2_with (first | (with_reducible refine stop_load (t := 70) ?_) | (with_reducible refine stop_store (t := 70) ?_) | (with_reducible refine stop_build (t := 70) ?_))
              refine (fo_take_yes O n wr H.out h0).mono ?_
              rintro e w2 ⟨x, rfl, hok, hof, hft⟩
              replace BW := Lib.hid (Below.trans BW.out (hft.below.mono HO.out))
              replace H := Lib.hid hof
              clear hof hft
              have XO := Lib.hid hok
              clear hok
              go_wp2_with (first | (with_reducible refine stop_load (t := 70) ?_) | (with_reducible refine stop_store (t := 70) ?_) | (with_reducible refine stop_build (t := 70) ?_))
              (with_reducible refine ⟨?_⟩); (with_reducible refine at_any ?_ ?_); (focus go_simp); refine fun K0 hK => st_lx _ _ w2.heap.size 70 Try.sizeLt x rfl rfl rfl XO.out (Bk.new rfl _ _) (by rfl) (fun w3 hd ho => hK _ _ ?_)
              clear hK
              have xx : Ex w2 w3 := ho.below w2.heap.size (Nat.le_refl _) w2 (Ex.alloc w2 _)
              replace BW := Lib.hid (Ex.trans BW.out xx)
              replace H := Lib.hid (H.out.ext xx)
              clear xx hd ho
              obtain ⟨n', rfl⟩ : ∃ n', n = n' + 1 := ⟨n - 1, by omega⟩
              replace H : Hid (FO w3 O n') := H
              have q5 : ¬ (64 : Int) < ((n' : Nat) : Int) := by omega
              have q6 : (((n' + 1 : Nat) : Int)) - 1 = ((n' : Nat) : Int) := by omega
              have q7 : 0 ≤ ((n' : Nat) : Int) := by omega
              go_wp2_with (first | (with_reducible refine stop_load (t := 70) ?_) | (with_reducible refine stop_store (t := 70) ?_) | (with_reducible refine stop_build (t := 70) ?_))
              refine (fo_len O _ _ H.out).mono ?_
              rintro e w9 ⟨rfl, rfl⟩
              go_wp2_with (first | (with_reducible refine stop_load (t := 70) ?_) | (with_reducible refine stop_store (t := 70) ?_) | (with_reducible refine stop_build (t := 70) ?_))
              refine ⟨?_, ?measure⟩
              (repeat apply Exists.intro)
              refine ⟨?rel, rfl⟩
              case rel => exact ⟨k + 1, n', by omega, by omega, by omega, by go_num, by go_num, H, BW⟩
              case measure => simp [intOf]; omega
            · skip
              obtain rfl : n = 0 := by omega
              go_wp2_with (first | (with_reducible refine stop_load (t := 70) ?_) | (with_reducible refine stop_store (t := 70) ?_) | (with_reducible refine stop_build (t := 70) ?_))
              refine (fo_take_none O wr H.out).mono ?_
              rintro e w2 ⟨x, rfl, hok, hof, hft⟩
              replace BW := Lib.hid (Below.trans BW.out (hft.below.mono HO.out))
              replace H := Lib.hid hof
              clear hof hft
              have XO := Lib.hid hok
              clear hok
              go_wp2_with (first | (with_reducible refine stop_load (t := 70) ?_) | (with_reducible refine stop_store (t := 70) ?_) | (with_reducible refine stop_build (t := 70) ?_))
              (with_reducible refine ⟨?_⟩); (with_reducible refine at_any ?_ ?_); (focus go_simp); refine fun K0 hK => st_lx _ _ w2.heap.size 70 Try.sizeLt x rfl rfl rfl XO.out (Bk.new rfl _ _) (by rfl) (fun w3 hd ho => hK _ _ ?_)
              clear hK
              have xx : Ex w2 w3 := ho.below w2.heap.size (Nat.le_refl _) w2 (Ex.alloc w2 _)
              replace BW := Lib.hid (Ex.trans BW.out xx)
              replace H := Lib.hid (H.out.ext xx)
              clear xx hd ho
              go_wp2_with (first | (with_reducible refine stop_load (t := 70) ?_) | (with_reducible refine stop_store (t := 70) ?_) | (with_reducible refine stop_build (t := 70) ?_))
              refine (fo_len O _ _ H.out).mono ?_
              rintro e w9 ⟨rfl, rfl⟩
              go_wp2_with (first | (with_reducible refine stop_load (t := 70) ?_) | (with_reducible refine stop_store (t := 70) ?_) | (with_reducible refine stop_build (t := 70) ?_))
              refine ⟨?_, ?measure⟩
              (repeat apply Exists.intro)
              refine ⟨?rel, rfl⟩
              case rel => exact ⟨k + 1, 0, by omega, by omega, by omega, by go_num, by go_num, H, BW⟩
              case measure => simp [intOf]; omega
          · rw [hb] at c0
            clear hb
            rcases (show (k : Int).tmod 2 = 0 ∨ (k : Int).tmod 2 = 1 by rw [Int.tmod_eq_emod_of_nonneg (by omega)]; omega) with hp | hp
            · by_cases h64 : n < 64
              · have q4 : ((n : Nat) : Int) < 64 := by omega
                go_wp2_with (first | (with_reducible refine stop_load (t := 70) ?_) | (with_reducible refine stop_store (t := 70) ?_) | (with_reducible refine stop_build (t := 70) ?_))
                (with_reducible refine ⟨?_⟩); (with_reducible refine at_any ?_ ?_); (focus go_simp); refine fun K0 hK => wp_build _ _ rfl _ (ltn_built k) (hK _ _ ?_)
                clear hK
                go_wp2_with (first | (with_reducible refine stop_load (t := 70) ?_) | (with_reducible refine stop_store (t := 70) ?_) | (with_reducible refine stop_build (t := 70) ?_))
                refine (fo_put_yes O n k (by omega) wr H.out h64).mono ?_
                rintro e w2 ⟨rfl, hof, hft⟩
                replace BW := Lib.hid (Below.trans BW.out (hft.below.mono HO.out))
                replace H := Lib.hid hof
                clear hof hft
                have q5 : ¬ (64 : Int) < ((n : Nat) : Int) + 1 := by omega
                have q6 : (((n + 1 : Nat) : Int)) = ((n : Nat) : Int) + 1 := by omega
                go_wp2_with (first | (with_reducible refine stop_load (t := 70) ?_) | (with_reducible refine stop_store (t := 70) ?_) | (with_reducible refine stop_build (t := 70) ?_))
                refine (fo_len O _ _ H.out).mono ?_
                rintro e w9 ⟨rfl, rfl⟩
                go_wp2_with (first | (with_reducible refine stop_load (t := 70) ?_) | (with_reducible refine stop_store (t := 70) ?_) | (with_reducible refine stop_build (t := 70) ?_))
                refine ⟨?_, ?measure⟩
                (repeat apply Exists.intro)
                refine ⟨?rel, rfl⟩
                case rel => exact ⟨k + 1, n + 1, by omega, by omega, by omega, by go_num, by go_num, H, BW⟩
                case measure => simp [intOf]; omega
              · have q4 : ¬ ((n : Nat) : Int) < 64 := by omega
                go_wp2_with (first | (with_reducible refine stop_load (t := 70) ?_) | (with_reducible refine stop_store (t := 70) ?_) | (with_reducible refine stop_build (t := 70) ?_))
                (with_reducible refine ⟨?_⟩); (with_reducible refine at_any ?_ ?_); (focus go_simp); refine fun K0 hK => wp_build _ _ rfl _ (ltn_built k) (hK _ _ ?_)
                clear hK
                go_wp2_with (first | (with_reducible refine stop_load (t := 70) ?_) | (with_reducible refine stop_store (t := 70) ?_) | (with_reducible refine stop_build (t := 70) ?_))
                refine (fo_put_no O n k (by omega) wr H.out h64).mono ?_
                rintro e w2 ⟨rfl, hof, hft⟩
                replace BW := Lib.hid (Below.trans BW.out (hft.below.mono HO.out))
                replace H := Lib.hid hof
                clear hof hft
                skip
                skip
                go_wp2_with (first | (with_reducible refine stop_load (t := 70) ?_) | (with_reducible refine stop_store (t := 70) ?_) | (with_reducible refine stop_build (t := 70) ?_))
                refine (fo_len O _ _ H.out).mono ?_
                rintro e w9 ⟨rfl, rfl⟩
                go_wp2_with (first | (with_reducible refine stop_load (t := 70) ?_) | (with_reducible refine stop_store (t := 70) ?_) | (with_reducible refine stop_build (t := 70) ?_))
                refine ⟨?_, ?measure⟩
                (repeat apply Exists.intro)
                refine ⟨?rel, rfl⟩
                case rel => exact ⟨k + 1, n, by omega, by omega, by omega, by go_num, by go_num, H, BW⟩
                case measure => simp [intOf]; omega
            · by_cases h0 : 0 < n
              · have q8 : (0 : Int) < ((n : Nat) : Int) := by omega
                by_cases h64 : n < 64
                · have q4 : ((n : Nat) : Int) < 64 := by omega
                  go_wp2_with (first | (with_reducible refine stop_load (t := 70) ?_) | (with_reducible refine stop_store (t := 70) ?_) | (with_reducible refine stop_build (t := 70) ?_))
                  refine (fo_double_yes O n wr H.out h0 h64).mono ?_
                  rintro e w2 ⟨rfl, hof, hft⟩
                  replace BW := Lib.hid (Below.trans BW.out (hft.below.mono HO.out))
                  replace H := Lib.hid hof
                  clear hof hft
                  have q5 : ¬ (64 : Int) < ((n : Nat) : Int) + 1 := by omega
                  have q6 : (((n + 1 : Nat) : Int)) = ((n : Nat) : Int) + 1 := by omega
                  go_wp2_with (first | (with_reducible refine stop_load (t := 70) ?_) | (with_reducible refine stop_store (t := 70) ?_) | (with_reducible refine stop_build (t := 70) ?_))
                  refine (fo_len O _ _ H.out).mono ?_
                  rintro e w9 ⟨rfl, rfl⟩
                  go_wp2_with (first | (with_reducible refine stop_load (t := 70) ?_) | (with_reducible refine stop_store (t := 70) ?_) | (with_reducible refine stop_build (t := 70) ?_))
                  refine ⟨?_, ?measure⟩
                  (repeat apply Exists.intro)
                  refine ⟨?rel, rfl⟩
                  case rel => exact ⟨k + 1, n + 1, by omega, by omega, by omega, by go_num, by go_num, H, BW⟩
                  case measure => simp [intOf]; omega
                · have q4 : ¬ ((n : Nat) : Int) < 64 := by omega
                  go_wp2_with (first | (with_reducible refine stop_load (t := 70) ?_) | (with_reducible refine stop_store (t := 70) ?_) | (with_reducible refine stop_build (t := 70) ?_))
                  refine (fo_double_no O n wr H.out h0 h64).mono ?_
                  rintro e w2 ⟨rfl, hof, hft⟩
                  replace BW := Lib.hid (Below.trans BW.out (hft.below.mono HO.out))
                  replace H := Lib.hid hof
                  clear hof hft
                  go_wp2_with (first | (with_reducible refine stop_load (t := 70) ?_) | (with_reducible refine stop_store (t := 70) ?_) | (with_reducible refine stop_build (t := 70) ?_))
                  refine (fo_len O _ _ H.out).mono ?_
                  rintro e w9 ⟨rfl, rfl⟩
                  go_wp2_with (first | (with_reducible refine stop_load (t := 70) ?_) | (with_reducible refine stop_store (t := 70) ?_) | (with_reducible refine stop_build (t := 70) ?_))
                  refine ⟨?_, ?measure⟩
                  (repeat apply Exists.intro)
                  refine ⟨?rel, rfl⟩
                  case rel => exact ⟨k + 1, n, by omega, by omega, by omega, by go_num, by go_num, H, BW⟩
                  case measure => simp [intOf]; omega
              · obtain rfl : n = 0 := by omega
                go_wp2_with (first | (with_reducible refine stop_load (t := 70) ?_) | (with_reducible refine stop_store (t := 70) ?_) | (with_reducible refine stop_build (t := 70) ?_))
                refine (fo_double_none O wr H.out).mono ?_
                rintro e w2 ⟨rfl, hof, hft⟩
                replace BW := Lib.hid (Below.trans BW.out (hft.below.mono HO.out))
                replace H := Lib.hid hof
                clear hof hft
                go_wp2_with (first | (with_reducible refine stop_load (t := 70) ?_) | (with_reducible refine stop_store (t := 70) ?_) | (with_reducible refine stop_build (t := 70) ?_))
                refine (fo_len O _ _ H.out).mono ?_
                rintro e w9 ⟨rfl, rfl⟩
                go_wp2_with (first | (with_reducible refine stop_load (t := 70) ?_) | (with_reducible refine stop_store (t := 70) ?_) | (with_reducible refine stop_build (t := 70) ?_))
                refine ⟨?_, ?measure⟩
                (repeat apply Exists.intro)
                refine ⟨?rel, rfl⟩
                case rel => exact ⟨k + 1, 0, by omega, by omega, by omega, by go_num, by go_num, H, BW⟩
                case measure => simp [intOf]; omega
        · by_cases hm2 : k < m
          · have q1 : (k : Int) < (m : Int) := by omega
            have q2 : ¬ (k : Int) < 60 := by omega
            go_wp2_with (first | (with_reducible refine stop_load (t := 70) ?_) | (with_reducible refine stop_store (t := 70) ?_) | (with_reducible refine stop_build (t := 70) ?_))
            refine (known21 wr).mono ?_
            rintro e w3 ⟨rfl, xx⟩
            have BW3 := Lib.hid (Ex.trans BW.out xx)
            clear xx
            go_wp2_with fail
            go_ret
            exact ⟨rfl, BW3.out⟩
          · have q1 : ¬ (k : Int) < (m : Int) := by omega
            go_wp2_with (first | (with_reducible refine stop_load (t := 70) ?_) | (with_reducible refine stop_store (t := 70) ?_) | (with_reducible refine stop_build (t := 70) ?_))
            refine (known21 wr).mono ?_
            rintro e w3 ⟨rfl, xx⟩
            have BW3 := Lib.hid (Ex.trans BW.out xx)
            clear xx
            go_wp2_with fail
            go_ret
            exact ⟨rfl, BW3.out⟩
end Go.Proofs.Ytedljddjmojeeaa
