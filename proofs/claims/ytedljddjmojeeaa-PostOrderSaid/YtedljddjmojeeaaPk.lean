/- PostOrder walked -/
import Derived.Test.YtedljddjmojeeaaPj
namespace Go.Proofs.Ytedljddjmojeeaa
open Go.RowKit
theorem held_any2 : True := trivial
set_option maxHeartbeats 4000000 in
set_option maxRecDepth 100000 in
theorem order_any (ad : Option Addr) (cap : Nat) (l : List Lt) (hL : l.length ≤ 9223372036854775807) (ad2 : Option Addr) (cap2 M : Nat) (Z : Nat → Int) (w : World) (hin : Lp.In ad cap l w) (hiz : IIn ad2 M Z w) : Calls Try.prog 11 #[.slice ad l.length cap, .slice ad2 M cap2] w fun e w' => e = .returned (.bool true) ∧ Ex w w' := by
  have HIN := Lib.hid hin
  have HIZ := Lib.hid hiz
  obtain ⟨ml, hml⟩ : ∃ m, m = l.length := ⟨_, rfl⟩
  rw [← hml] at hL ⊢
  have HML := Lib.hid hml
  have hM := hiz.1
  obtain ⟨n, hn⟩ : ∃ n : Nat, n = min ml 30 := ⟨_, rfl⟩
  have hmin : min (ml : Int) 30 = (n : Int) := by omega
  have n30 : n ≤ 30 := by omega
  have nml : n ≤ ml := by omega
  clear hml hin hiz hn
  go_enter Try.func11, Try.ntmps11
  go_wp2_with (first | (with_reducible refine stop_load (t := 70) ?_) | (with_reducible refine stop_store (t := 70) ?_) | (with_reducible refine stop_build (t := 70) ?_))
  refine (pnew_any w).mono ?_
  rintro e w1 ⟨O, rfl, hO, hof, xx⟩
  have HO := Lib.hid hO
  have BW := Lib.hid xx
  have H : Hid (OF w1 O (mkL l 0)) := Lib.hid hof
  clear hO hof xx
  go_wp2_with (first | (with_reducible refine stop_load (t := 70) ?_) | (with_reducible refine stop_store (t := 70) ?_) | (with_reducible refine stop_build (t := 70) ?_))
  go_loopw [7] (fun i wr => ∃ k : Nat, k ≤ n ∧ i = .int .i64 k ∧ Hid (OF wr O (mkL l k)) ∧ Hid (Ex w wr)) (fun i _ => n - (intOf i).toNat)
  case atStart => exact ⟨0, by omega, rfl, H, BW⟩
  case round =>
    clear H BW
    obtain ⟨k, hk, rfl, H, BW⟩ := hrel
    by_cases hlt : k < n
    · have q1 : (k : Int) < (n : Int) := by omega
      have q2 : (k : Int) < (ml : Int) := by omega
      have q0 : (0 : Int) ≤ (k : Int) := by omega
      obtain ⟨a, o, rfl, ha, hc⟩ := HIN.out.read (by rw [← HML.out]; omega)
      obtain ⟨x, hx⟩ : ∃ x, l[k]? = some x := ⟨_, List.getElem?_eq_getElem (by rw [← HML.out]; omega)⟩
      have c3 : wr.cell? ⟨a, o + k * 4 + 3, none⟩ = some x.bs.V := (Below.cell (p := ⟨a, o + k * 4 + 3, none⟩) BW.out ha).trans (hc k x hx 3 _ rfl)
      have XI := Lib.hid ((HIN.out.ins k x hx).ext BW.out)
      have HX := Lib.hid hx
      clear hc ha hx
      go_wp2_with (first | (with_reducible refine stop_load (t := 70) ?_) | (with_reducible refine stop_store (t := 70) ?_) | (with_reducible refine stop_build (t := 70) ?_))
      refine (cut_any x.bs 20 (by omega) (by omega) XI.out.n wr XI.out.b).mono ?_
      rintro e w2 ⟨rfl, rfl⟩
      go_wp2_with (first | (with_reducible refine stop_load (t := 70) ?_) | (with_reducible refine stop_store (t := 70) ?_) | (with_reducible refine stop_build (t := 70) ?_))
      (with_reducible refine ⟨?_⟩); (with_reducible refine at_any ?_ ?_); (focus go_simp); refine fun K0 hK => wp_build _ _ rfl _ (ltp_built x k) (hK _ _ ?_)
      clear hK
      go_wp2_with (first | (with_reducible refine stop_load (t := 70) ?_) | (with_reducible refine stop_store (t := 70) ?_) | (with_reducible refine stop_build (t := 70) ?_))
      refine (put_order O l k x (by omega) HX.out wr H.out XI.out).mono ?_
      rintro e w2 ⟨rfl, hof, hft⟩
      replace BW := Lib.hid (Below.trans BW.out (hft.below.mono HO.out))
      replace H := Lib.hid hof
      clear hof hft
      clear XI
      go_wp2_with (first | (with_reducible refine stop_load (t := 70) ?_) | (with_reducible refine stop_store (t := 70) ?_) | (with_reducible refine stop_build (t := 70) ?_))
      (first | (refine ⟨?_, ?measure⟩; (repeat apply Exists.intro); refine ⟨?rel, rfl⟩) | refine ⟨?rel, ?measure⟩)
      case rel => exact ⟨k + 1, by omega, by go_num, H, BW⟩
      case measure => simp [intOf]; omega
    · obtain rfl : k = n := by omega
      have q1 : ¬ (k : Int) < (k : Int) := by omega
      go_wp2_with (first | (with_reducible refine stop_load (t := 70) ?_) | (with_reducible refine stop_store (t := 70) ?_) | (with_reducible refine stop_build (t := 70) ?_))
      go_loopw [8, 9] (fun h i wr => ∃ (i' d : Nat) (ls : List (Bool × Lc)), i' ≤ M ∧ i' ≤ 10 ∧ d ≤ k ∧ h = .int .i64 d ∧ i = .int .i64 i' ∧ Hid (Hs l k d ls) ∧ Hid (OF wr O ls) ∧ Hid (Ex w wr)) (fun _ i _ => M - (intOf i).toNat)
      case atStart => exact ⟨0, 0, mkL l k, by omega, by omega, by omega, rfl, rfl, Lib.hid (Hs.zero l k), H, BW⟩
      case round =>
        clear H BW
        obtain ⟨i, d, ls, hi, hi10, hd, rfl, rfl, HH, H, BW⟩ := hrel
        by_cases hlt2 : i < M ∧ i < 10 ∧ 0 < k
        · obtain ⟨h1, h2, h3⟩ := hlt2
          obtain ⟨a, o, rfl, ha, hc⟩ := HIZ.out.2.2 (by omega)
          have r0 : (0 : Int) ≤ (i : Int) := by omega
          have r1 : (i : Int) < (M : Int) := by omega
          have r2 : (i : Int) < 10 := by omega
          have r3 : (0 : Int) < (k : Int) := by omega
          have c0 : wr.cell? ⟨a, o + i, none⟩ = some (.int .i64 (Z i)) := (Below.cell (p := ⟨a, o + i, none⟩) BW.out ha).trans (hc i h1)
          have ZB := Lib.hid (HIZ.out.2.1 i h1)
          clear hc ha
          go_wp2_with (first | (with_reducible refine stop_load (t := 70) ?_) | (with_reducible refine stop_store (t := 70) ?_) | (with_reducible refine stop_build (t := 70) ?_))
          refine (within_any (Z i) 0 ((k : Int) - 1) ZB.out (by omega) (by omega) (by omega) wr).mono ?_
          rintro e w2 ⟨j, rfl, hj0, hj1, rfl⟩
          obtain ⟨m, rfl⟩ := Int.eq_ofNat_of_zero_le hj0
          have hmk : m < ls.length := by rw [HH.out.len]; omega
          obtain ⟨⟨b, c⟩, hx⟩ : ∃ x, ls[m]? = some x := ⟨_, List.getElem?_eq_getElem hmk⟩
          have HX := Lib.hid hx
          clear hx hmk hj0 hj1
          go_wp2_with (first | (with_reducible refine stop_load (t := 70) ?_) | (with_reducible refine stop_store (t := 70) ?_) | (with_reducible refine stop_build (t := 70) ?_))
          cases b
          · have HH2 := Lib.hid (HH.out.hold HX.out)
            have hd2 := HH2.out.le
            refine (hold_yes O ls m c wr H.out HX.out).mono ?_
            rintro e w2 ⟨rfl, hof, hft⟩
            replace BW := Lib.hid (Below.trans BW.out (hft.below.mono HO.out))
            replace H := Lib.hid hof
            clear hof hft
            go_wp2_with (first | (with_reducible refine stop_load (t := 70) ?_) | (with_reducible refine stop_store (t := 70) ?_) | (with_reducible refine stop_build (t := 70) ?_))
            (first | (refine ⟨?_, ?measure⟩; (repeat apply Exists.intro); refine ⟨?rel, rfl⟩) | refine ⟨?rel, ?measure⟩)
            case rel => exact ⟨i + 1, d + 1, _, by omega, by omega, by omega, by go_num, by go_num, HH2, H, BW⟩
            case measure => simp [intOf]; omega
          · refine (hold_held O ls m c wr H.out HX.out).mono ?_
            rintro e w2 ⟨rfl, hof, hft⟩
            replace BW := Lib.hid (Below.trans BW.out (hft.below.mono HO.out))
            replace H := Lib.hid hof
            clear hof hft
            go_wp2_with (first | (with_reducible refine stop_load (t := 70) ?_) | (with_reducible refine stop_store (t := 70) ?_) | (with_reducible refine stop_build (t := 70) ?_))
            (first | (refine ⟨?_, ?measure⟩; (repeat apply Exists.intro); refine ⟨?rel, rfl⟩) | refine ⟨?rel, ?measure⟩)
            case rel => exact ⟨i + 1, d, ls, by omega, by omega, by omega, by go_num, by go_num, HH, H, BW⟩
            case measure => simp [intOf]; omega
        · have HLV := hlt2
          skip
          by_cases e1 : i < M
          · have r1 : (i : Int) < (M : Int) := by omega
            by_cases e2 : i < 10
            · have r2 : (i : Int) < 10 := by omega
              have r3 : ¬ (0 : Int) < (k : Int) := by omega
              go_wp2_with (first | (with_reducible refine stop_load (t := 70) ?_) | (with_reducible refine stop_store (t := 70) ?_) | (with_reducible refine stop_build (t := 70) ?_))
              go_loopw [10, 11] (fun la ii wr => ∃ (i' fr : Nat) (la' : Int) (ls : List (Bool × Lc)), i' + fr = k - d ∧ -1 ≤ la' ∧ la' ≤ 1000 ∧ la = .int .i64 la' ∧ ii = .int .i64 i' ∧ Hid (Ks l k d fr la' ls) ∧ Hid (OF wr O ls) ∧ Hid (Ex w wr)) (fun _ ii _ => (k - d) - (intOf ii).toNat)
              case atStart => exact ⟨0, k - d, -1, ls, by omega, by omega, by omega, rfl, rfl, Lib.hid HH.out.ks, H, BW⟩
              case round =>
                clear H BW HH ls
                obtain ⟨t, fr, la, ls, ht, hla0, hla1, rfl, rfl, HK, H, BW⟩ := hrel
                have s0 : (k : Int) - (d : Int) = ((k - d : Nat) : Int) := by omega
                rcases fr with _ | fr
                · have s1 : ¬ (t : Int) < (k : Int) - (d : Int) := by omega
                  obtain ⟨hdl, hdh⟩ := HK.out.done
                  have FN := firstO_none hdh
                  have HF := Lib.hid (show Fs d 0 ls from ⟨hdl, fun j hj => absurd hj (Nat.not_lt_zero j), fun j _ hj => hdh j (by omega)⟩)
                  have HDL := Lib.hid hdl
                  clear hdl hdh
                  go_wp2_with (first | (with_reducible refine stop_load (t := 70) ?_) | (with_reducible refine stop_store (t := 70) ?_) | (with_reducible refine stop_build (t := 70) ?_))
                  refine (first_any O ls wr H.out).mono ?_
                  rintro e w2 ⟨rfl, xx⟩
                  rw [FN]
                  clear FN
                  replace BW := Lib.hid (Ex.trans BW.out xx)
                  replace H := Lib.hid (H.out.ext xx)
                  clear xx
                  go_wp2_with (first | (with_reducible refine stop_load (t := 70) ?_) | (with_reducible refine stop_store (t := 70) ?_) | (with_reducible refine stop_build (t := 70) ?_))
                  refine (lenO_any O ls w2 H.out).mono ?_
                  rintro e w3 ⟨rfl, hw⟩
                  rw [HDL.out]
                  rw [hw] at H BW
                  clear hw HDL HK
                  go_wp2_with (first | (with_reducible refine stop_load (t := 70) ?_) | (with_reducible refine stop_store (t := 70) ?_) | (with_reducible refine stop_build (t := 70) ?_))
                  go_loopw [15] (fun ii wr => ∃ (i' : Nat) (ls : List (Bool × Lc)), i' ≤ d ∧ ii = .int .i64 i' ∧ Hid (Fs d i' ls) ∧ Hid (OF wr O ls) ∧ Hid (Ex w wr)) (fun ii _ => d - (intOf ii).toNat)
                  case atStart => exact ⟨0, ls, by omega, rfl, HF, H, BW⟩
                  case round =>
                    clear H BW HF ls
                    obtain ⟨t2, ls, ht2, rfl, HF, H, BW⟩ := hrel
                    by_cases hlt4 : t2 < d
                    · have u1 : (t2 : Int) < (d : Int) := by omega
                      obtain ⟨c, hc⟩ := HF.out.hi t2 (Nat.le_refl _) hlt4
                      have HX := Lib.hid hc
                      clear hc
                      go_wp2_with (first | (with_reducible refine stop_load (t := 70) ?_) | (with_reducible refine stop_store (t := 70) ?_) | (with_reducible refine stop_build (t := 70) ?_))
                      refine (free_yes O ls t2 c wr H.out HX.out).mono ?_
                      rintro e w2 ⟨rfl, hof, hft⟩
                      replace BW := Lib.hid (Below.trans BW.out (hft.below.mono HO.out))
                      replace H := Lib.hid hof
                      clear hof hft
                      go_wp2_with (first | (with_reducible refine stop_load (t := 70) ?_) | (with_reducible refine stop_store (t := 70) ?_) | (with_reducible refine stop_build (t := 70) ?_))
                      (first | (refine ⟨?_, ?measure⟩; (repeat apply Exists.intro); refine ⟨?rel, rfl⟩) | refine ⟨?rel, ?measure⟩)
                      case rel => exact ⟨t2 + 1, _, by omega, by go_num, Lib.hid (HF.out.step hlt4), H, BW⟩
                      case measure => simp [intOf]; omega
                    · obtain rfl : t2 = d := by omega
                      have u1 : ¬ (t2 : Int) < (t2 : Int) := by omega
                      have FE := Lib.hid HF.out.end
                      go_wp2_with (first | (with_reducible refine stop_load (t := 70) ?_) | (with_reducible refine stop_store (t := 70) ?_) | (with_reducible refine stop_build (t := 70) ?_))
                      refine (first_any O ls wr H.out).mono ?_
                      rintro e w2 ⟨rfl, xx⟩
                      replace BW := Lib.hid (Ex.trans BW.out xx)
                      clear xx
                      by_cases hd0 : 0 < t2
                      · rw [FE.out.1 hd0]
                        have u2 : (0 : Int) < (t2 : Int) := by omega
                        go_wp2_with (first | (with_reducible refine stop_load (t := 70) ?_) | (with_reducible refine stop_store (t := 70) ?_) | (with_reducible refine stop_build (t := 70) ?_))
                        refine (known21 w2).mono ?_
                        rintro e w3 ⟨rfl, xx⟩
                        have BW3 := Lib.hid (Ex.trans BW.out xx)
                        clear xx
                        go_wp2_with fail
                        go_ret
                        exact ⟨rfl, BW3.out⟩
                      · rw [FE.out.2 (by omega)]
                        have u2 : ¬ (0 : Int) < (t2 : Int) := by omega
                        go_wp2_with (first | (with_reducible refine stop_load (t := 70) ?_) | (with_reducible refine stop_store (t := 70) ?_) | (with_reducible refine stop_build (t := 70) ?_))
                        refine (known21 w2).mono ?_
                        rintro e w3 ⟨rfl, xx⟩
                        have BW3 := Lib.hid (Ex.trans BW.out xx)
                        clear xx
                        go_wp2_with fail
                        go_ret
                        exact ⟨rfl, BW3.out⟩
                · exfalso; omega
            · have r2 : ¬ (i : Int) < 10 := by omega
              go_wp2_with (first | (with_reducible refine stop_load (t := 70) ?_) | (with_reducible refine stop_store (t := 70) ?_) | (with_reducible refine stop_build (t := 70) ?_))
              go_loopw [10, 11] (fun la ii wr => ∃ (i' fr : Nat) (la' : Int) (ls : List (Bool × Lc)), i' + fr = k - d ∧ -1 ≤ la' ∧ la' ≤ 1000 ∧ la = .int .i64 la' ∧ ii = .int .i64 i' ∧ Hid (Ks l k d fr la' ls) ∧ Hid (OF wr O ls) ∧ Hid (Ex w wr)) (fun _ ii _ => (k - d) - (intOf ii).toNat)
              case atStart => exact ⟨0, k - d, -1, ls, by omega, by omega, by omega, rfl, rfl, Lib.hid HH.out.ks, H, BW⟩
              case round =>
                clear H BW HH ls
                obtain ⟨t, fr, la, ls, ht, hla0, hla1, rfl, rfl, HK, H, BW⟩ := hrel
                have s0 : (k : Int) - (d : Int) = ((k - d : Nat) : Int) := by omega
                rcases fr with _ | fr
                · have s1 : ¬ (t : Int) < (k : Int) - (d : Int) := by omega
                  obtain ⟨hdl, hdh⟩ := HK.out.done
                  have FN := firstO_none hdh
                  have HF := Lib.hid (show Fs d 0 ls from ⟨hdl, fun j hj => absurd hj (Nat.not_lt_zero j), fun j _ hj => hdh j (by omega)⟩)
                  have HDL := Lib.hid hdl
                  clear hdl hdh
                  go_wp2_with (first | (with_reducible refine stop_load (t := 70) ?_) | (with_reducible refine stop_store (t := 70) ?_) | (with_reducible refine stop_build (t := 70) ?_))
                  refine (first_any O ls wr H.out).mono ?_
                  rintro e w2 ⟨rfl, xx⟩
                  rw [FN]
                  clear FN
                  replace BW := Lib.hid (Ex.trans BW.out xx)
                  replace H := Lib.hid (H.out.ext xx)
                  clear xx
                  go_wp2_with (first | (with_reducible refine stop_load (t := 70) ?_) | (with_reducible refine stop_store (t := 70) ?_) | (with_reducible refine stop_build (t := 70) ?_))
                  refine (lenO_any O ls w2 H.out).mono ?_
                  rintro e w3 ⟨rfl, hw⟩
                  rw [HDL.out]
                  rw [hw] at H BW
                  clear hw HDL HK
                  go_wp2_with (first | (with_reducible refine stop_load (t := 70) ?_) | (with_reducible refine stop_store (t := 70) ?_) | (with_reducible refine stop_build (t := 70) ?_))
                  go_loopw [15] (fun ii wr => ∃ (i' : Nat) (ls : List (Bool × Lc)), i' ≤ d ∧ ii = .int .i64 i' ∧ Hid (Fs d i' ls) ∧ Hid (OF wr O ls) ∧ Hid (Ex w wr)) (fun ii _ => d - (intOf ii).toNat)
                  case atStart => exact ⟨0, ls, by omega, rfl, HF, H, BW⟩
                  case round =>
                    clear H BW HF ls
                    obtain ⟨t2, ls, ht2, rfl, HF, H, BW⟩ := hrel
                    by_cases hlt4 : t2 < d
                    · have u1 : (t2 : Int) < (d : Int) := by omega
                      obtain ⟨c, hc⟩ := HF.out.hi t2 (Nat.le_refl _) hlt4
                      have HX := Lib.hid hc
                      clear hc
                      go_wp2_with (first | (with_reducible refine stop_load (t := 70) ?_) | (with_reducible refine stop_store (t := 70) ?_) | (with_reducible refine stop_build (t := 70) ?_))
                      refine (free_yes O ls t2 c wr H.out HX.out).mono ?_
                      rintro e w2 ⟨rfl, hof, hft⟩
                      replace BW := Lib.hid (Below.trans BW.out (hft.below.mono HO.out))
                      replace H := Lib.hid hof
                      clear hof hft
                      go_wp2_with (first | (with_reducible refine stop_load (t := 70) ?_) | (with_reducible refine stop_store (t := 70) ?_) | (with_reducible refine stop_build (t := 70) ?_))
                      (first | (refine ⟨?_, ?measure⟩; (repeat apply Exists.intro); refine ⟨?rel, rfl⟩) | refine ⟨?rel, ?measure⟩)
                      case rel => exact ⟨t2 + 1, _, by omega, by go_num, Lib.hid (HF.out.step hlt4), H, BW⟩
                      case measure => simp [intOf]; omega
                    · obtain rfl : t2 = d := by omega
                      have u1 : ¬ (t2 : Int) < (t2 : Int) := by omega
                      have FE := Lib.hid HF.out.end
                      go_wp2_with (first | (with_reducible refine stop_load (t := 70) ?_) | (with_reducible refine stop_store (t := 70) ?_) | (with_reducible refine stop_build (t := 70) ?_))
                      refine (first_any O ls wr H.out).mono ?_
                      rintro e w2 ⟨rfl, xx⟩
                      replace BW := Lib.hid (Ex.trans BW.out xx)
                      clear xx
                      by_cases hd0 : 0 < t2
                      · rw [FE.out.1 hd0]
                        have u2 : (0 : Int) < (t2 : Int) := by omega
                        go_wp2_with (first | (with_reducible refine stop_load (t := 70) ?_) | (with_reducible refine stop_store (t := 70) ?_) | (with_reducible refine stop_build (t := 70) ?_))
                        refine (known21 w2).mono ?_
                        rintro e w3 ⟨rfl, xx⟩
                        have BW3 := Lib.hid (Ex.trans BW.out xx)
                        clear xx
                        go_wp2_with fail
                        go_ret
                        exact ⟨rfl, BW3.out⟩
                      · rw [FE.out.2 (by omega)]
                        have u2 : ¬ (0 : Int) < (t2 : Int) := by omega
                        go_wp2_with (first | (with_reducible refine stop_load (t := 70) ?_) | (with_reducible refine stop_store (t := 70) ?_) | (with_reducible refine stop_build (t := 70) ?_))
                        refine (known21 w2).mono ?_
                        rintro e w3 ⟨rfl, xx⟩
                        have BW3 := Lib.hid (Ex.trans BW.out xx)
                        clear xx
                        go_wp2_with fail
                        go_ret
                        exact ⟨rfl, BW3.out⟩
                · have s1 : (t : Int) < (k : Int) - (d : Int) := by omega
                  obtain ⟨p, j, hpx, hpf, hj, hlj, hks⟩ := HK.out.take
                  have HKN := Lib.hid hks
                  have HX := Lib.hid hpx
                  clear hks hpx HK
                  go_wp2_with (first | (with_reducible refine stop_load (t := 70) ?_) | (with_reducible refine stop_store (t := 70) ?_) | (with_reducible refine stop_build (t := 70) ?_))
                  refine (first_any O ls wr H.out).mono ?_
                  rintro e w2 ⟨rfl, xx⟩
                  rw [hpf]
                  clear hpf
                  replace BW := Lib.hid (Ex.trans BW.out xx)
                  replace H := Lib.hid (H.out.ext xx)
                  clear xx
                  go_wp2_with (first | (with_reducible refine stop_load (t := 70) ?_) | (with_reducible refine stop_store (t := 70) ?_) | (with_reducible refine stop_build (t := 70) ?_))
                  refine (take_yes O ls p (pc l j) w2 H.out HX.out).mono ?_
                  rintro e w3 ⟨x, rfl, hxc, hln, hof, hft⟩
                  replace BW := Lib.hid (Below.trans BW.out (hft.below.mono HO.out))
                  replace H := Lib.hid hof
                  clear hof hft
                  have HL := Lib.hid hln
                  have HC := Lib.hid hxc
                  clear hln hxc
                  go_wp2_with (first | (with_reducible refine stop_load (t := 70) ?_) | (with_reducible refine stop_store (t := 70) ?_) | (with_reducible refine stop_build (t := 70) ?_))
                  (with_reducible refine ⟨?_⟩); (with_reducible refine at_any ?_ ?_); (focus go_simp); refine fun K0 hK => st_lx _ _ w3.heap.size 70 Try.sizeLt x rfl rfl rfl HL.out.1 (Bk.new rfl _ _) (by rfl) (fun w5 hd9 ho => hK _ _ ?_)
                  clear hK
                  have xx : Ex w3 w5 := ho.below w3.heap.size (Nat.le_refl _) w3 (Ex.alloc w3 _)
                  replace BW := Lib.hid (Ex.trans BW.out xx)
                  replace H := Lib.hid (H.out.ext xx)
                  replace HL := Lib.hid (HL.out.ext xx)
                  obtain ⟨g, hg⟩ : ∃ g, g = w3.heap.size := ⟨_, rfl⟩
                  rw [← hg] at hd9 ⊢
                  have HG := Lib.hid hd9
                  have HGL := Lib.hid (show g < w5.heap.size from hd9.2.lt)
                  clear xx ho hd9 hg
                  obtain ⟨ab, o, rfl, ha, hc⟩ := HIN.out.read (by rw [← HML.out]; omega)
                  obtain ⟨y, hy⟩ : ∃ y, l[j]? = some y := ⟨_, List.getElem?_eq_getElem (by rw [← HML.out]; omega)⟩
                  obtain ⟨S, hS⟩ : ∃ S, S = y.bs.l.take 20 := ⟨_, rfl⟩
                  have HYS := Lib.hid hS
                  have hxl : x.bs.l = S := by
                    have h := congrArg (·.by_) HC.out
                    rw [show (pc l j).by_ = S from by unfold pc; rw [List.getD_eq_getElem?_getD, hy, hS]; rfl] at h
                    exact h
                  have HXS := Lib.hid hxl
                  have hxk : x.kind = (j : Int) := congrArg (·.kind) HC.out
                  have HXI := Lib.hid HL.out.2.1
                  obtain ⟨d0, d1, d2, d3⟩ := LB.cells HG.out
                  rw [hxk] at d0
                  have C0 := Lib.hid d0
                  have C3 := Lib.hid d3
                  have YI := Lib.hid ((HIN.out.ins j y hy).ext BW.out)
                  have CY : Hid (w5.cell? ⟨ab, o + j * 4 + 3, none⟩ = some y.bs.V) := Lib.hid ((Below.cell (p := ⟨ab, o + j * 4 + 3, none⟩) BW.out ha).trans (hc j y hy 3 _ rfl))
                  have HAL := Lib.hid (show ab < w5.heap.size from Nat.lt_of_lt_of_le ha BW.out.sz)
                  have v0 : (0 : Int) ≤ (j : Int) := by omega
                  have v1 : (j : Int) < (ml : Int) := by omega
                  have v2 : (j : Int) < (k : Int) := by omega
                  have v3 : ¬ (j : Int) ≤ la := by omega
                  have v4 : ¬ (k : Int) ≤ (j : Int) := by omega
                  clear d0 d1 d2 d3 hc ha hy hS hxl hxk
                  go_wp2_with fail
                  obtain ⟨T, hT⟩ : ∃ T : List Sa, T = [.is (.bool true), .is (.bool false), .is (.bool false), .is (.pointer (some ⟨g, 0, none⟩)), .is (.int .i64 j), .is (.int .i64 la), .is (.bool false), .is (.bool false), .is (.bool false), .is (.pointer (some ⟨g, 0, none⟩)), .is (.int .i64 j), .is (.int .i64 k), .is (.bool false), .is (.bool false), .is (.bool false), .is (.pointer (some ⟨g, 3, none⟩)), .is (x.bs.V), .is (.string (strL S)), .is (.slice (some ⟨ab, o, none⟩) ml cap), .is (.pointer (some ⟨g, 0, none⟩)), .is (.int .i64 j), .is (.pointer (some ⟨ab, o + j * 4, none⟩)), .is (.pointer (some ⟨ab, o + j * 4 + 3, none⟩)), .is (y.bs.V), .is (Pt.V ⟨y.bs.ad, y.bs.cap, y.bs.l.take 20⟩), .is (.string (strL S)), .is (.bool false)] := ⟨_, rfl⟩
                  refine wp_region_flow 27 (saPhi T) (by kernel_rfl) rfl (by kernel_rfl) (by kernel_rfl) (by kernel_rfl) (saPhi_stable T) (fitB_spec (by kernel_rfl)) ?_ ?_
                  · intro i o hi ho
                    have hi' : i = 0 ∨ i = 1 ∨ i = 2 ∨ i = 3 ∨ i = 4 ∨ i = 5 ∨ i = 6 ∨ i = 7 ∨ i = 8 ∨ i = 9 ∨ i = 10 ∨ i = 11 ∨ i = 12 ∨ i = 13 ∨ i = 14 ∨ i = 15 ∨ i = 16 ∨ i = 17 ∨ i = 18 ∨ i = 19 ∨ i = 20 ∨ i = 21 ∨ i = 22 ∨ i = 23 ∨ i = 24 ∨ i = 25 ∨ i = 26 := by omega
                    clear hi
                    rcases hi' with rfl | rfl | rfl | rfl | rfl | rfl | rfl | rfl | rfl | rfl | rfl | rfl | rfl | rfl | rfl | rfl | rfl | rfl | rfl | rfl | rfl | rfl | rfl | rfl | rfl | rfl | rfl
                    all_goals (simp only [List.getElem?_toArray, List.getElem?_cons_zero, List.getElem?_cons_succ, Option.some.injEq] at ho; subst ho; intro a w2 hx hsz hdep hout)
                    · rw [if_pos (by rfl)]
                      intro K hK
                      have q14 := hout 14 (outB_spec (by kernel_rfl))
                      exact wp_mv _ rfl (hK _ _ (Ex.refl _) (by rw [hT]; exact q14))
                    · rw [if_pos (by rfl)]
                      intro K hK
                      obtain ⟨v78, h78, k78⟩ := hdep ⟨0, .data⟩ (by simp) rfl _ rfl
                      have q78 := k78 _ rfl
                      clear k78
                      rw [hT] at h78
                      obtain rfl : v78 = .bool true := h78
                      rw [Array.getD_eq_getD_getElem?] at q78
                      clear hsz hdep hout
                      go_simp
                      exact hK _ _ (Ex.refl _) (by rw [hT]; rfl)
                    · rw [if_pos (by rfl)]
                      intro K hK
                      obtain ⟨v79, h79, k79⟩ := hdep ⟨1, .data⟩ (by simp) rfl _ rfl
                      have q79 := k79 _ rfl
                      clear k79
                      rw [hT] at h79
                      obtain rfl : v79 = .bool false := h79
                      exact wp_mv _ rfl (hK _ _ (Ex.refl _) (by rw [hT]; exact q79))
                    · obtain ⟨vg, hvg, kg⟩ := hdep ⟨2, .guard⟩ (by simp) rfl _ rfl
                      rw [hT] at hvg
                      obtain rfl : vg = .bool false := hvg
                      rw [if_pos (wanted_of rfl rfl rfl (kg _ rfl))]
                      clear kg
                      intro K hK
                      have q13 := hout 13 (outB_spec (by kernel_rfl))
                      rw [Array.getD_eq_getD_getElem?] at q13
                      clear hsz hdep hout
                      go_simp
                      exact hK _ _ (Ex.refl _) (by rw [hT]; rfl)
                    · obtain ⟨vg, hvg, kg⟩ := hdep ⟨2, .guard⟩ (by simp) rfl _ rfl
                      rw [hT] at hvg
                      obtain rfl : vg = .bool false := hvg
                      rw [if_pos (wanted_of rfl rfl rfl (kg _ rfl))]
                      clear kg
                      intro K hK
                      obtain ⟨v81, h81, k81⟩ := hdep ⟨3, .data⟩ (by simp) rfl _ rfl
                      have q81 := k81 _ rfl
                      clear k81
                      rw [hT] at h81
                      obtain rfl : v81 = .pointer (some ⟨g, 0, none⟩) := h81
                      have c1 := (Below.cell (p := ⟨g, 0, none⟩) (Ex.trans (show Ex w5 (World.drew w5) from (Below.refl _ _).drew) hx) HGL.out).trans C0.out
                      rw [Array.getD_eq_getD_getElem?] at q81
                      clear hsz hdep hout
                      go_simp
                      exact hK _ _ (Ex.refl _) (by rw [hT]; rfl)
                    · obtain ⟨vg, hvg, kg⟩ := hdep ⟨2, .guard⟩ (by simp) rfl _ rfl
                      rw [hT] at hvg
                      obtain rfl : vg = .bool false := hvg
                      rw [if_pos (wanted_of rfl rfl rfl (kg _ rfl))]
                      clear kg
                      intro K hK
                      have q10 := hout 10 (outB_spec (by kernel_rfl))
                      exact wp_mv _ rfl (hK _ _ (Ex.refl _) (by rw [hT]; exact q10))
                    · obtain ⟨vg, hvg, kg⟩ := hdep ⟨2, .guard⟩ (by simp) rfl _ rfl
                      rw [hT] at hvg
                      obtain rfl : vg = .bool false := hvg
                      rw [if_pos (wanted_of rfl rfl rfl (kg _ rfl))]
                      clear kg
                      intro K hK
                      obtain ⟨v82, h82, k82⟩ := hdep ⟨4, .data⟩ (by simp) rfl _ rfl
                      have q82 := k82 _ rfl
                      clear k82
                      rw [hT] at h82
                      obtain rfl : v82 = .int .i64 j := h82
                      obtain ⟨v83, h83, k83⟩ := hdep ⟨5, .data⟩ (by simp) rfl _ rfl
                      have q83 := k83 _ rfl
                      clear k83
                      rw [hT] at h83
                      obtain rfl : v83 = .int .i64 la := h83
                      rw [Array.getD_eq_getD_getElem?] at q82
                      rw [Array.getD_eq_getD_getElem?] at q83
                      clear hsz hdep hout
                      go_simp
                      exact hK _ _ (Ex.refl _) (by rw [hT]; exact congrArg Value.bool (decide_eq_false (by omega)))
                    · rw [if_pos (by rfl)]
                      intro K hK
                      obtain ⟨v80, h80, k80⟩ := hdep ⟨2, .data⟩ (by simp) rfl _ rfl
                      have q80 := k80 _ rfl
                      clear k80
                      rw [hT] at h80
                      obtain rfl : v80 = .bool false := h80
                      obtain ⟨v84, h84, k84⟩ := hdep ⟨6, .data⟩ (by simp) rfl _ rfl
                      have q84 := k84 _ rfl
                      clear k84
                      rw [hT] at h84
                      obtain rfl : v84 = .bool false := h84
                      rw [Array.getD_eq_getD_getElem?] at q80
                      rw [Array.getD_eq_getD_getElem?] at q84
                      clear hsz hdep hout
                      go_simp
                      exact hK _ _ (Ex.refl _) (by rw [hT]; rfl)
                    · rw [if_pos (by rfl)]
                      intro K hK
                      obtain ⟨v85, h85, k85⟩ := hdep ⟨7, .data⟩ (by simp) rfl _ rfl
                      have q85 := k85 _ rfl
                      clear k85
                      rw [hT] at h85
                      obtain rfl : v85 = .bool false := h85
                      exact wp_mv _ rfl (hK _ _ (Ex.refl _) (by rw [hT]; exact q85))
                    · obtain ⟨vg, hvg, kg⟩ := hdep ⟨8, .guard⟩ (by simp) rfl _ rfl
                      rw [hT] at hvg
                      obtain rfl : vg = .bool false := hvg
                      rw [if_pos (wanted_of rfl rfl rfl (kg _ rfl))]
                      clear kg
                      intro K hK
                      have q13 := hout 13 (outB_spec (by kernel_rfl))
                      rw [Array.getD_eq_getD_getElem?] at q13
                      clear hsz hdep hout
                      go_simp
                      exact hK _ _ (Ex.refl _) (by rw [hT]; rfl)
                    · obtain ⟨vg, hvg, kg⟩ := hdep ⟨8, .guard⟩ (by simp) rfl _ rfl
                      rw [hT] at hvg
                      obtain rfl : vg = .bool false := hvg
                      rw [if_pos (wanted_of rfl rfl rfl (kg _ rfl))]
                      clear kg
                      intro K hK
                      obtain ⟨v87, h87, k87⟩ := hdep ⟨9, .data⟩ (by simp) rfl _ rfl
                      have q87 := k87 _ rfl
                      clear k87
                      rw [hT] at h87
                      obtain rfl : v87 = .pointer (some ⟨g, 0, none⟩) := h87
                      have c1 := (Below.cell (p := ⟨g, 0, none⟩) (Ex.trans (show Ex w5 (World.drew w5) from (Below.refl _ _).drew) hx) HGL.out).trans C0.out
                      rw [Array.getD_eq_getD_getElem?] at q87
                      clear hsz hdep hout
                      go_simp
                      exact hK _ _ (Ex.refl _) (by rw [hT]; rfl)
                    · obtain ⟨vg, hvg, kg⟩ := hdep ⟨8, .guard⟩ (by simp) rfl _ rfl
                      rw [hT] at hvg
                      obtain rfl : vg = .bool false := hvg
                      rw [if_pos (wanted_of rfl rfl rfl (kg _ rfl))]
                      clear kg
                      intro K hK
                      have q6 := hout 6 (outB_spec (by kernel_rfl))
                      exact wp_mv _ rfl (hK _ _ (Ex.refl _) (by rw [hT]; exact q6))
                    · obtain ⟨vg, hvg, kg⟩ := hdep ⟨8, .guard⟩ (by simp) rfl _ rfl
                      rw [hT] at hvg
                      obtain rfl : vg = .bool false := hvg
                      rw [if_pos (wanted_of rfl rfl rfl (kg _ rfl))]
                      clear kg
                      intro K hK
                      obtain ⟨v88, h88, k88⟩ := hdep ⟨10, .data⟩ (by simp) rfl _ rfl
                      have q88 := k88 _ rfl
                      clear k88
                      rw [hT] at h88
                      obtain rfl : v88 = .int .i64 j := h88
                      obtain ⟨v89, h89, k89⟩ := hdep ⟨11, .data⟩ (by simp) rfl _ rfl
                      have q89 := k89 _ rfl
                      clear k89
                      rw [hT] at h89
                      obtain rfl : v89 = .int .i64 k := h89
                      rw [Array.getD_eq_getD_getElem?] at q88
                      rw [Array.getD_eq_getD_getElem?] at q89
                      clear hsz hdep hout
                      go_simp
                      exact hK _ _ (Ex.refl _) (by rw [hT]; exact congrArg Value.bool (decide_eq_false (by omega)))
                    · rw [if_pos (by rfl)]
                      intro K hK
                      obtain ⟨v86, h86, k86⟩ := hdep ⟨8, .data⟩ (by simp) rfl _ rfl
                      have q86 := k86 _ rfl
                      clear k86
                      rw [hT] at h86
                      obtain rfl : v86 = .bool false := h86
                      obtain ⟨v90, h90, k90⟩ := hdep ⟨12, .data⟩ (by simp) rfl _ rfl
                      have q90 := k90 _ rfl
                      clear k90
                      rw [hT] at h90
                      obtain rfl : v90 = .bool false := h90
                      rw [Array.getD_eq_getD_getElem?] at q86
                      rw [Array.getD_eq_getD_getElem?] at q90
                      clear hsz hdep hout
                      go_simp
                      exact hK _ _ (Ex.refl _) (by rw [hT]; rfl)
                    · rw [if_pos (by rfl)]
                      intro K hK
                      obtain ⟨v91, h91, k91⟩ := hdep ⟨13, .data⟩ (by simp) rfl _ rfl
                      have q91 := k91 _ rfl
                      clear k91
                      rw [hT] at h91
                      obtain rfl : v91 = .bool false := h91
                      exact wp_mv _ rfl (hK _ _ (Ex.refl _) (by rw [hT]; exact q91))
                    · obtain ⟨vg, hvg, kg⟩ := hdep ⟨14, .guard⟩ (by simp) rfl _ rfl
                      rw [hT] at hvg
                      obtain rfl : vg = .bool false := hvg
                      rw [if_pos (wanted_of rfl rfl rfl (kg _ rfl))]
                      clear kg
                      intro K hK
                      have q13 := hout 13 (outB_spec (by kernel_rfl))
                      rw [Array.getD_eq_getD_getElem?] at q13
                      clear hsz hdep hout
                      go_simp
                      exact hK _ _ (Ex.refl _) (by rw [hT]; rfl)
                    · obtain ⟨vg, hvg, kg⟩ := hdep ⟨14, .guard⟩ (by simp) rfl _ rfl
                      rw [hT] at hvg
                      obtain rfl : vg = .bool false := hvg
                      rw [if_pos (wanted_of rfl rfl rfl (kg _ rfl))]
                      clear kg
                      intro K hK
                      obtain ⟨v93, h93, k93⟩ := hdep ⟨15, .data⟩ (by simp) rfl _ rfl
                      have q93 := k93 _ rfl
                      clear k93
                      rw [hT] at h93
                      obtain rfl : v93 = .pointer (some ⟨g, 3, none⟩) := h93
                      have c1 := (Below.cell (p := ⟨g, 3, none⟩) (Ex.trans (show Ex w5 (World.drew w5) from (Below.refl _ _).drew) hx) HGL.out).trans C3.out
                      rw [Array.getD_eq_getD_getElem?] at q93
                      clear hsz hdep hout
                      go_simp
                      exact hK _ _ (Ex.refl _) (by rw [hT]; rfl)
                    · obtain ⟨vg, hvg, kg⟩ := hdep ⟨14, .guard⟩ (by simp) rfl _ rfl
                      rw [hT] at hvg
                      obtain rfl : vg = .bool false := hvg
                      rw [if_pos (wanted_of rfl rfl rfl (kg _ rfl))]
                      clear kg
                      intro K hK
                      obtain ⟨v94, h94, k94⟩ := hdep ⟨16, .data⟩ (by simp) rfl _ rfl
                      have q94 := k94 _ rfl
                      clear k94
                      rw [hT] at h94
                      obtain rfl : v94 = x.bs.V := h94
                      have cv := pt_conv x.bs w2 (Pt.In.ext (HXI.out) (Ex.trans (show Ex w5 (World.drew w5) from (Below.refl _ _).drew) hx))
                      rw [show (x.bs).l = S from HXS.out] at cv
                      unfold Pt.V at q94
                      rw [show (x.bs).l.length = S.length from congrArg List.length HXS.out] at q94
                      rw [Array.getD_eq_getD_getElem?] at q94
                      clear hsz hdep hout
                      go_simp
                      exact hK _ _ (Ex.refl _) (by rw [hT]; rfl)
                    · obtain ⟨vg, hvg, kg⟩ := hdep ⟨14, .guard⟩ (by simp) rfl _ rfl
                      rw [hT] at hvg
                      obtain rfl : vg = .bool false := hvg
                      rw [if_pos (wanted_of rfl rfl rfl (kg _ rfl))]
                      clear kg
                      intro K hK
                      have q0 := hout 0 (outB_spec (by kernel_rfl))
                      exact wp_mv _ rfl (hK _ _ (Ex.refl _) (by rw [hT]; exact q0))
                    · obtain ⟨vg, hvg, kg⟩ := hdep ⟨14, .guard⟩ (by simp) rfl _ rfl
                      rw [hT] at hvg
                      obtain rfl : vg = .bool false := hvg
                      rw [if_pos (wanted_of rfl rfl rfl (kg _ rfl))]
                      clear kg
                      intro K hK
                      have q13 := hout 13 (outB_spec (by kernel_rfl))
                      rw [Array.getD_eq_getD_getElem?] at q13
                      clear hsz hdep hout
                      go_simp
                      exact hK _ _ (Ex.refl _) (by rw [hT]; rfl)
                    · obtain ⟨vg, hvg, kg⟩ := hdep ⟨14, .guard⟩ (by simp) rfl _ rfl
                      rw [hT] at hvg
                      obtain rfl : vg = .bool false := hvg
                      rw [if_pos (wanted_of rfl rfl rfl (kg _ rfl))]
                      clear kg
                      intro K hK
                      obtain ⟨v97, h97, k97⟩ := hdep ⟨19, .data⟩ (by simp) rfl _ rfl
                      have q97 := k97 _ rfl
                      clear k97
                      rw [hT] at h97
                      obtain rfl : v97 = .pointer (some ⟨g, 0, none⟩) := h97
                      have c1 := (Below.cell (p := ⟨g, 0, none⟩) (Ex.trans (show Ex w5 (World.drew w5) from (Below.refl _ _).drew) hx) HGL.out).trans C0.out
                      rw [Array.getD_eq_getD_getElem?] at q97
                      clear hsz hdep hout
                      go_simp
                      exact hK _ _ (Ex.refl _) (by rw [hT]; rfl)
                    · obtain ⟨vg, hvg, kg⟩ := hdep ⟨14, .guard⟩ (by simp) rfl _ rfl
                      rw [hT] at hvg
                      obtain rfl : vg = .bool false := hvg
                      rw [if_pos (wanted_of rfl rfl rfl (kg _ rfl))]
                      clear kg
                      intro K hK
                      obtain ⟨v96, h96, k96⟩ := hdep ⟨18, .data⟩ (by simp) rfl _ rfl
                      have q96 := k96 _ rfl
                      clear k96
                      rw [hT] at h96
                      obtain rfl : v96 = .slice (some ⟨ab, o, none⟩) ml cap := h96
                      obtain ⟨v98, h98, k98⟩ := hdep ⟨20, .data⟩ (by simp) rfl _ rfl
                      have q98 := k98 _ rfl
                      clear k98
                      rw [hT] at h98
                      obtain rfl : v98 = .int .i64 j := h98
                      rw [Array.getD_eq_getD_getElem?] at q96
                      rw [Array.getD_eq_getD_getElem?] at q98
                      clear hsz hdep hout
                      go_simp
                      exact hK _ _ (Ex.refl _) (by rw [hT]; rfl)
                    · obtain ⟨vg, hvg, kg⟩ := hdep ⟨14, .guard⟩ (by simp) rfl _ rfl
                      rw [hT] at hvg
                      obtain rfl : vg = .bool false := hvg
                      rw [if_pos (wanted_of rfl rfl rfl (kg _ rfl))]
                      clear kg
                      intro K hK
                      obtain ⟨v99, h99, k99⟩ := hdep ⟨21, .data⟩ (by simp) rfl _ rfl
                      have q99 := k99 _ rfl
                      clear k99
                      rw [hT] at h99
                      obtain rfl : v99 = .pointer (some ⟨ab, o + j * 4, none⟩) := h99
                      rw [Array.getD_eq_getD_getElem?] at q99
                      clear hsz hdep hout
                      go_simp
                      exact hK _ _ (Ex.refl _) (by rw [hT]; rfl)
                    · obtain ⟨vg, hvg, kg⟩ := hdep ⟨14, .guard⟩ (by simp) rfl _ rfl
                      rw [hT] at hvg
                      obtain rfl : vg = .bool false := hvg
                      rw [if_pos (wanted_of rfl rfl rfl (kg _ rfl))]
                      clear kg
                      intro K hK
                      obtain ⟨v100, h100, k100⟩ := hdep ⟨22, .data⟩ (by simp) rfl _ rfl
                      have q100 := k100 _ rfl
                      clear k100
                      rw [hT] at h100
                      obtain rfl : v100 = .pointer (some ⟨ab, o + j * 4 + 3, none⟩) := h100
                      have c1 := (Below.cell (p := ⟨ab, o + j * 4 + 3, none⟩) (Ex.trans (show Ex w5 (World.drew w5) from (Below.refl _ _).drew) hx) HAL.out).trans CY.out
                      rw [Array.getD_eq_getD_getElem?] at q100
                      clear hsz hdep hout
                      go_simp
                      exact hK _ _ (Ex.refl _) (by rw [hT]; rfl)
                    · obtain ⟨vg, hvg, kg⟩ := hdep ⟨14, .guard⟩ (by simp) rfl _ rfl
                      rw [hT] at hvg
                      obtain rfl : vg = .bool false := hvg
                      rw [if_pos (wanted_of rfl rfl rfl (kg _ rfl))]
                      clear kg
                      intro K hK
                      obtain ⟨v101, h101, k101⟩ := hdep ⟨23, .data⟩ (by simp) rfl _ rfl
                      have q101 := k101 _ rfl
                      clear k101
                      rw [hT] at h101
                      obtain rfl : v101 = y.bs.V := h101
                      rw [Array.getD_eq_getD_getElem?] at q101
                      clear hsz hdep hout
                      go_simp
                      refine (cut_any y.bs 20 (by omega) (by omega) YI.out.n w2 (YI.out.ext (Ex.trans (show Ex w5 (World.drew w5) from (Below.refl _ _).drew) hx)).b).mono ?_
                      rintro e w3 ⟨rfl, rfl⟩
                      exact hK _ _ (Ex.refl _) (by rw [hT]; rfl)
                    · obtain ⟨vg, hvg, kg⟩ := hdep ⟨14, .guard⟩ (by simp) rfl _ rfl
                      rw [hT] at hvg
                      obtain rfl : vg = .bool false := hvg
                      rw [if_pos (wanted_of rfl rfl rfl (kg _ rfl))]
                      clear kg
                      intro K hK
                      obtain ⟨v102, h102, k102⟩ := hdep ⟨24, .data⟩ (by simp) rfl _ rfl
                      have q102 := k102 _ rfl
                      clear k102
                      rw [hT] at h102
                      obtain rfl : v102 = Pt.V ⟨y.bs.ad, y.bs.cap, y.bs.l.take 20⟩ := h102
                      have cv := pt_conv (Pt.mk y.bs.ad y.bs.cap (y.bs.l.take 20)) w2 (Pt.In.ext (YI.out.b.take 20) (Ex.trans (show Ex w5 (World.drew w5) from (Below.refl _ _).drew) hx))
                      rw [show ((Pt.mk y.bs.ad y.bs.cap (y.bs.l.take 20))).l = S from HYS.out.symm] at cv
                      unfold Pt.V at q102
                      rw [show ((Pt.mk y.bs.ad y.bs.cap (y.bs.l.take 20))).l.length = S.length from congrArg List.length HYS.out.symm] at q102
                      rw [Array.getD_eq_getD_getElem?] at q102
                      clear hsz hdep hout
                      go_simp
                      exact hK _ _ (Ex.refl _) (by rw [hT]; rfl)
                    · obtain ⟨vg, hvg, kg⟩ := hdep ⟨14, .guard⟩ (by simp) rfl _ rfl
                      rw [hT] at hvg
                      obtain rfl : vg = .bool false := hvg
                      rw [if_pos (wanted_of rfl rfl rfl (kg _ rfl))]
                      clear kg
                      intro K hK
                      obtain ⟨v95, h95, k95⟩ := hdep ⟨17, .data⟩ (by simp) rfl _ rfl
                      have q95 := k95 _ rfl
                      clear k95
                      rw [hT] at h95
                      obtain rfl : v95 = .string (strL S) := h95
                      obtain ⟨v103, h103, k103⟩ := hdep ⟨25, .data⟩ (by simp) rfl _ rfl
                      have q103 := k103 _ rfl
                      clear k103
                      rw [hT] at h103
                      obtain rfl : v103 = .string (strL S) := h103
                      rw [Array.getD_eq_getD_getElem?] at q95
                      rw [Array.getD_eq_getD_getElem?] at q103
                      clear hsz hdep hout
                      go_simp
                      exact hK _ _ (Ex.refl _) (by rw [hT]; rfl)
                  · intro a w2 hx hdef hsz hdone hout
                    obtain ⟨v92, h92, k92⟩ := hdone 14 _ (by omega) rfl
                    have q92 := k92 _ rfl
                    clear k92
                    rw [hT] at h92
                    obtain rfl : v92 = .bool false := h92
                    obtain ⟨v104, h104, k104⟩ := hdone 26 _ (by omega) rfl
                    have q104 := k104 _ rfl
                    clear k104
                    rw [hT] at h104
                    obtain rfl : v104 = .bool false := h104
                    clear hdone hT
                    have hA := arr_range a.tmps 135 hsz
                    change a.tmps = #[a.tmps[0]?.getD undef, a.tmps[1]?.getD undef, a.tmps[2]?.getD undef, a.tmps[3]?.getD undef, a.tmps[4]?.getD undef, a.tmps[5]?.getD undef, a.tmps[6]?.getD undef, a.tmps[7]?.getD undef, a.tmps[8]?.getD undef, a.tmps[9]?.getD undef, a.tmps[10]?.getD undef, a.tmps[11]?.getD undef, a.tmps[12]?.getD undef, a.tmps[13]?.getD undef, a.tmps[14]?.getD undef, a.tmps[15]?.getD undef, a.tmps[16]?.getD undef, a.tmps[17]?.getD undef, a.tmps[18]?.getD undef, a.tmps[19]?.getD undef, a.tmps[20]?.getD undef, a.tmps[21]?.getD undef, a.tmps[22]?.getD undef, a.tmps[23]?.getD undef, a.tmps[24]?.getD undef, a.tmps[25]?.getD undef, a.tmps[26]?.getD undef, a.tmps[27]?.getD undef, a.tmps[28]?.getD undef, a.tmps[29]?.getD undef, a.tmps[30]?.getD undef, a.tmps[31]?.getD undef, a.tmps[32]?.getD undef, a.tmps[33]?.getD undef, a.tmps[34]?.getD undef, a.tmps[35]?.getD undef, a.tmps[36]?.getD undef, a.tmps[37]?.getD undef, a.tmps[38]?.getD undef, a.tmps[39]?.getD undef, a.tmps[40]?.getD undef, a.tmps[41]?.getD undef, a.tmps[42]?.getD undef, a.tmps[43]?.getD undef, a.tmps[44]?.getD undef, a.tmps[45]?.getD undef, a.tmps[46]?.getD undef, a.tmps[47]?.getD undef, a.tmps[48]?.getD undef, a.tmps[49]?.getD undef, a.tmps[50]?.getD undef, a.tmps[51]?.getD undef, a.tmps[52]?.getD undef, a.tmps[53]?.getD undef, a.tmps[54]?.getD undef, a.tmps[55]?.getD undef, a.tmps[56]?.getD undef, a.tmps[57]?.getD undef, a.tmps[58]?.getD undef, a.tmps[59]?.getD undef, a.tmps[60]?.getD undef, a.tmps[61]?.getD undef, a.tmps[62]?.getD undef, a.tmps[63]?.getD undef, a.tmps[64]?.getD undef, a.tmps[65]?.getD undef, a.tmps[66]?.getD undef, a.tmps[67]?.getD undef, a.tmps[68]?.getD undef, a.tmps[69]?.getD undef, a.tmps[70]?.getD undef, a.tmps[71]?.getD undef, a.tmps[72]?.getD undef, a.tmps[73]?.getD undef, a.tmps[74]?.getD undef, a.tmps[75]?.getD undef, a.tmps[76]?.getD undef, a.tmps[77]?.getD undef, a.tmps[78]?.getD undef, a.tmps[79]?.getD undef, a.tmps[80]?.getD undef, a.tmps[81]?.getD undef, a.tmps[82]?.getD undef, a.tmps[83]?.getD undef, a.tmps[84]?.getD undef, a.tmps[85]?.getD undef, a.tmps[86]?.getD undef, a.tmps[87]?.getD undef, a.tmps[88]?.getD undef, a.tmps[89]?.getD undef, a.tmps[90]?.getD undef, a.tmps[91]?.getD undef, a.tmps[92]?.getD undef, a.tmps[93]?.getD undef, a.tmps[94]?.getD undef, a.tmps[95]?.getD undef, a.tmps[96]?.getD undef, a.tmps[97]?.getD undef, a.tmps[98]?.getD undef, a.tmps[99]?.getD undef, a.tmps[100]?.getD undef, a.tmps[101]?.getD undef, a.tmps[102]?.getD undef, a.tmps[103]?.getD undef, a.tmps[104]?.getD undef, a.tmps[105]?.getD undef, a.tmps[106]?.getD undef, a.tmps[107]?.getD undef, a.tmps[108]?.getD undef, a.tmps[109]?.getD undef, a.tmps[110]?.getD undef, a.tmps[111]?.getD undef, a.tmps[112]?.getD undef, a.tmps[113]?.getD undef, a.tmps[114]?.getD undef, a.tmps[115]?.getD undef, a.tmps[116]?.getD undef, a.tmps[117]?.getD undef, a.tmps[118]?.getD undef, a.tmps[119]?.getD undef, a.tmps[120]?.getD undef, a.tmps[121]?.getD undef, a.tmps[122]?.getD undef, a.tmps[123]?.getD undef, a.tmps[124]?.getD undef, a.tmps[125]?.getD undef, a.tmps[126]?.getD undef, a.tmps[127]?.getD undef, a.tmps[128]?.getD undef, a.tmps[129]?.getD undef, a.tmps[130]?.getD undef, a.tmps[131]?.getD undef, a.tmps[132]?.getD undef, a.tmps[133]?.getD undef, a.tmps[134]?.getD undef] at hA
                    have e0 := hout 0 (fun i o _ h => outB_spec (by kernel_rfl) i o h)
                    have e1 := hout 1 (fun i o _ h => outB_spec (by kernel_rfl) i o h)
                    have e2 := hout 2 (fun i o _ h => outB_spec (by kernel_rfl) i o h)
                    have e3 := hout 3 (fun i o _ h => outB_spec (by kernel_rfl) i o h)
                    have e4 := hout 4 (fun i o _ h => outB_spec (by kernel_rfl) i o h)
                    have e5 := hout 5 (fun i o _ h => outB_spec (by kernel_rfl) i o h)
                    have e6 := hout 6 (fun i o _ h => outB_spec (by kernel_rfl) i o h)
                    have e7 := hout 7 (fun i o _ h => outB_spec (by kernel_rfl) i o h)
                    have e8 := hout 8 (fun i o _ h => outB_spec (by kernel_rfl) i o h)
                    have e9 := hout 9 (fun i o _ h => outB_spec (by kernel_rfl) i o h)
                    have e10 := hout 10 (fun i o _ h => outB_spec (by kernel_rfl) i o h)
                    have e11 := hout 11 (fun i o _ h => outB_spec (by kernel_rfl) i o h)
                    have e12 := hout 12 (fun i o _ h => outB_spec (by kernel_rfl) i o h)
                    have e13 := hout 13 (fun i o _ h => outB_spec (by kernel_rfl) i o h)
                    have e14 := hout 14 (fun i o _ h => outB_spec (by kernel_rfl) i o h)
                    have e15 := hout 15 (fun i o _ h => outB_spec (by kernel_rfl) i o h)
                    have e16 := hout 16 (fun i o _ h => outB_spec (by kernel_rfl) i o h)
                    have e17 := hout 17 (fun i o _ h => outB_spec (by kernel_rfl) i o h)
                    have e18 := hout 18 (fun i o _ h => outB_spec (by kernel_rfl) i o h)
                    have e19 := hout 19 (fun i o _ h => outB_spec (by kernel_rfl) i o h)
                    have e20 := hout 20 (fun i o _ h => outB_spec (by kernel_rfl) i o h)
                    have e21 := hout 21 (fun i o _ h => outB_spec (by kernel_rfl) i o h)
                    have e22 := hout 22 (fun i o _ h => outB_spec (by kernel_rfl) i o h)
                    have e23 := hout 23 (fun i o _ h => outB_spec (by kernel_rfl) i o h)
                    have e24 := hout 24 (fun i o _ h => outB_spec (by kernel_rfl) i o h)
                    have e25 := hout 25 (fun i o _ h => outB_spec (by kernel_rfl) i o h)
                    have e26 := hout 26 (fun i o _ h => outB_spec (by kernel_rfl) i o h)
                    have e27 := hout 27 (fun i o _ h => outB_spec (by kernel_rfl) i o h)
                    have e28 := hout 28 (fun i o _ h => outB_spec (by kernel_rfl) i o h)
                    have e29 := hout 29 (fun i o _ h => outB_spec (by kernel_rfl) i o h)
                    have e30 := hout 30 (fun i o _ h => outB_spec (by kernel_rfl) i o h)
                    have e31 := hout 31 (fun i o _ h => outB_spec (by kernel_rfl) i o h)
                    have e32 := hout 32 (fun i o _ h => outB_spec (by kernel_rfl) i o h)
                    have e33 := hout 33 (fun i o _ h => outB_spec (by kernel_rfl) i o h)
                    have e34 := hout 34 (fun i o _ h => outB_spec (by kernel_rfl) i o h)
                    have e35 := hout 35 (fun i o _ h => outB_spec (by kernel_rfl) i o h)
                    have e36 := hout 36 (fun i o _ h => outB_spec (by kernel_rfl) i o h)
                    have e37 := hout 37 (fun i o _ h => outB_spec (by kernel_rfl) i o h)
                    have e38 := hout 38 (fun i o _ h => outB_spec (by kernel_rfl) i o h)
                    have e39 := hout 39 (fun i o _ h => outB_spec (by kernel_rfl) i o h)
                    have e40 := hout 40 (fun i o _ h => outB_spec (by kernel_rfl) i o h)
                    have e41 := hout 41 (fun i o _ h => outB_spec (by kernel_rfl) i o h)
                    have e42 := hout 42 (fun i o _ h => outB_spec (by kernel_rfl) i o h)
                    have e43 := hout 43 (fun i o _ h => outB_spec (by kernel_rfl) i o h)
                    have e44 := hout 44 (fun i o _ h => outB_spec (by kernel_rfl) i o h)
                    have e45 := hout 45 (fun i o _ h => outB_spec (by kernel_rfl) i o h)
                    have e46 := hout 46 (fun i o _ h => outB_spec (by kernel_rfl) i o h)
                    have e47 := hout 47 (fun i o _ h => outB_spec (by kernel_rfl) i o h)
                    have e48 := hout 48 (fun i o _ h => outB_spec (by kernel_rfl) i o h)
                    have e49 := hout 49 (fun i o _ h => outB_spec (by kernel_rfl) i o h)
                    have e50 := hout 50 (fun i o _ h => outB_spec (by kernel_rfl) i o h)
                    have e51 := hout 51 (fun i o _ h => outB_spec (by kernel_rfl) i o h)
                    have e52 := hout 52 (fun i o _ h => outB_spec (by kernel_rfl) i o h)
                    have e53 := hout 53 (fun i o _ h => outB_spec (by kernel_rfl) i o h)
                    have e54 := hout 54 (fun i o _ h => outB_spec (by kernel_rfl) i o h)
                    have e55 := hout 55 (fun i o _ h => outB_spec (by kernel_rfl) i o h)
                    have e56 := hout 56 (fun i o _ h => outB_spec (by kernel_rfl) i o h)
                    have e57 := hout 57 (fun i o _ h => outB_spec (by kernel_rfl) i o h)
                    have e58 := hout 58 (fun i o _ h => outB_spec (by kernel_rfl) i o h)
                    have e59 := hout 59 (fun i o _ h => outB_spec (by kernel_rfl) i o h)
                    have e60 := hout 60 (fun i o _ h => outB_spec (by kernel_rfl) i o h)
                    have e61 := hout 61 (fun i o _ h => outB_spec (by kernel_rfl) i o h)
                    have e62 := hout 62 (fun i o _ h => outB_spec (by kernel_rfl) i o h)
                    have e63 := hout 63 (fun i o _ h => outB_spec (by kernel_rfl) i o h)
                    have e64 := hout 64 (fun i o _ h => outB_spec (by kernel_rfl) i o h)
                    have e65 := hout 65 (fun i o _ h => outB_spec (by kernel_rfl) i o h)
                    have e66 := hout 66 (fun i o _ h => outB_spec (by kernel_rfl) i o h)
                    have e67 := hout 67 (fun i o _ h => outB_spec (by kernel_rfl) i o h)
                    have e68 := hout 68 (fun i o _ h => outB_spec (by kernel_rfl) i o h)
                    have e69 := hout 69 (fun i o _ h => outB_spec (by kernel_rfl) i o h)
                    have e70 := hout 70 (fun i o _ h => outB_spec (by kernel_rfl) i o h)
                    have e71 := hout 71 (fun i o _ h => outB_spec (by kernel_rfl) i o h)
                    have e72 := hout 72 (fun i o _ h => outB_spec (by kernel_rfl) i o h)
                    have e73 := hout 73 (fun i o _ h => outB_spec (by kernel_rfl) i o h)
                    have e74 := hout 74 (fun i o _ h => outB_spec (by kernel_rfl) i o h)
                    have e75 := hout 75 (fun i o _ h => outB_spec (by kernel_rfl) i o h)
                    have e76 := hout 76 (fun i o _ h => outB_spec (by kernel_rfl) i o h)
                    have e77 := hout 77 (fun i o _ h => outB_spec (by kernel_rfl) i o h)
                    have e106 := hout 106 (fun i o _ h => outB_spec (by kernel_rfl) i o h)
                    have e107 := hout 107 (fun i o _ h => outB_spec (by kernel_rfl) i o h)
                    have e108 := hout 108 (fun i o _ h => outB_spec (by kernel_rfl) i o h)
                    have e109 := hout 109 (fun i o _ h => outB_spec (by kernel_rfl) i o h)
                    have e110 := hout 110 (fun i o _ h => outB_spec (by kernel_rfl) i o h)
                    have e111 := hout 111 (fun i o _ h => outB_spec (by kernel_rfl) i o h)
                    have e112 := hout 112 (fun i o _ h => outB_spec (by kernel_rfl) i o h)
                    have e113 := hout 113 (fun i o _ h => outB_spec (by kernel_rfl) i o h)
                    have e114 := hout 114 (fun i o _ h => outB_spec (by kernel_rfl) i o h)
                    have e115 := hout 115 (fun i o _ h => outB_spec (by kernel_rfl) i o h)
                    have e116 := hout 116 (fun i o _ h => outB_spec (by kernel_rfl) i o h)
                    have e117 := hout 117 (fun i o _ h => outB_spec (by kernel_rfl) i o h)
                    have e118 := hout 118 (fun i o _ h => outB_spec (by kernel_rfl) i o h)
                    have e119 := hout 119 (fun i o _ h => outB_spec (by kernel_rfl) i o h)
                    have e120 := hout 120 (fun i o _ h => outB_spec (by kernel_rfl) i o h)
                    have e121 := hout 121 (fun i o _ h => outB_spec (by kernel_rfl) i o h)
                    have e122 := hout 122 (fun i o _ h => outB_spec (by kernel_rfl) i o h)
                    have e123 := hout 123 (fun i o _ h => outB_spec (by kernel_rfl) i o h)
                    have e124 := hout 124 (fun i o _ h => outB_spec (by kernel_rfl) i o h)
                    have e125 := hout 125 (fun i o _ h => outB_spec (by kernel_rfl) i o h)
                    have e126 := hout 126 (fun i o _ h => outB_spec (by kernel_rfl) i o h)
                    have e127 := hout 127 (fun i o _ h => outB_spec (by kernel_rfl) i o h)
                    have e128 := hout 128 (fun i o _ h => outB_spec (by kernel_rfl) i o h)
                    have e129 := hout 129 (fun i o _ h => outB_spec (by kernel_rfl) i o h)
                    have e130 := hout 130 (fun i o _ h => outB_spec (by kernel_rfl) i o h)
                    have e131 := hout 131 (fun i o _ h => outB_spec (by kernel_rfl) i o h)
                    have e132 := hout 132 (fun i o _ h => outB_spec (by kernel_rfl) i o h)
                    have e133 := hout 133 (fun i o _ h => outB_spec (by kernel_rfl) i o h)
                    have e134 := hout 134 (fun i o _ h => outB_spec (by kernel_rfl) i o h)
                    simp only [Array.getD_eq_getD_getElem?, List.getElem?_toArray, List.getElem?_cons_zero, List.getElem?_cons_succ, Option.getD_some] at e0 e1 e2 e3 e4 e5 e6 e7 e8 e9 e10 e11 e12 e13 e14 e15 e16 e17 e18 e19 e20 e21 e22 e23 e24 e25 e26 e27 e28 e29 e30 e31 e32 e33 e34 e35 e36 e37 e38 e39 e40 e41 e42 e43 e44 e45 e46 e47 e48 e49 e50 e51 e52 e53 e54 e55 e56 e57 e58 e59 e60 e61 e62 e63 e64 e65 e66 e67 e68 e69 e70 e71 e72 e73 e74 e75 e76 e77 e106 e107 e108 e109 e110 e111 e112 e113 e114 e115 e116 e117 e118 e119 e120 e121 e122 e123 e124 e125 e126 e127 e128 e129 e130 e131 e132 e133 e134
                    rw [e0, e1, e2, e3, e4, e5, e6, e7, e8, e9, e10, e11, e12, e13, e14, e15, e16, e17, e18, e19, e20, e21, e22, e23, e24, e25, e26, e27, e28, e29, e30, e31, e32, e33, e34, e35, e36, e37, e38, e39, e40, e41, e42, e43, e44, e45, e46, e47, e48, e49, e50, e51, e52, e53, e54, e55, e56, e57, e58, e59, e60, e61, e62, e63, e64, e65, e66, e67, e68, e69, e70, e71, e72, e73, e74, e75, e76, e77, e106, e107, e108, e109, e110, e111, e112, e113, e114, e115, e116, e117, e118, e119, e120, e121, e122, e123, e124, e125, e126, e127, e128, e129, e130, e131, e132, e133, e134] at hA
                    clear e0 e1 e2 e3 e4 e5 e6 e7 e8 e9 e10 e11 e12 e13 e14 e15 e16 e17 e18 e19 e20 e21 e22 e23 e24 e25 e26 e27 e28 e29 e30 e31 e32 e33 e34 e35 e36 e37 e38 e39 e40 e41 e42 e43 e44 e45 e46 e47 e48 e49 e50 e51 e52 e53 e54 e55 e56 e57 e58 e59 e60 e61 e62 e63 e64 e65 e66 e67 e68 e69 e70 e71 e72 e73 e74 e75 e76 e77 e106 e107 e108 e109 e110 e111 e112 e113 e114 e115 e116 e117 e118 e119 e120 e121 e122 e123 e124 e125 e126 e127 e128 e129 e130 e131 e132 e133 e134 hout
                    have hds2 : a.defers = [] := hdef
                    have ea : a = ⟨a.tmps, a.defers⟩ := rfl
                    rw [Array.getD_eq_getD_getElem?] at q92
                    rw [Array.getD_eq_getD_getElem?] at q104
                    rw [hA, hds2, q92, q104] at ea
                    clear hA hds2 q92 q104 hdef
                    generalize a.tmps[78]?.getD undef = y78 at ea
                    generalize a.tmps[79]?.getD undef = y79 at ea
                    generalize a.tmps[80]?.getD undef = y80 at ea
                    generalize a.tmps[81]?.getD undef = y81 at ea
                    generalize a.tmps[82]?.getD undef = y82 at ea
                    generalize a.tmps[83]?.getD undef = y83 at ea
                    generalize a.tmps[84]?.getD undef = y84 at ea
                    generalize a.tmps[85]?.getD undef = y85 at ea
                    generalize a.tmps[86]?.getD undef = y86 at ea
                    generalize a.tmps[87]?.getD undef = y87 at ea
                    generalize a.tmps[88]?.getD undef = y88 at ea
                    generalize a.tmps[89]?.getD undef = y89 at ea
                    generalize a.tmps[90]?.getD undef = y90 at ea
                    generalize a.tmps[91]?.getD undef = y91 at ea
                    generalize a.tmps[93]?.getD undef = y93 at ea
                    generalize a.tmps[94]?.getD undef = y94 at ea
                    generalize a.tmps[95]?.getD undef = y95 at ea
                    generalize a.tmps[96]?.getD undef = y96 at ea
                    generalize a.tmps[97]?.getD undef = y97 at ea
                    generalize a.tmps[98]?.getD undef = y98 at ea
                    generalize a.tmps[99]?.getD undef = y99 at ea
                    generalize a.tmps[100]?.getD undef = y100 at ea
                    generalize a.tmps[101]?.getD undef = y101 at ea
                    generalize a.tmps[102]?.getD undef = y102 at ea
                    generalize a.tmps[103]?.getD undef = y103 at ea
                    generalize a.tmps[105]?.getD undef = y105 at ea
                    clear hsz
                    subst ea
                    have bx : Ex w5 w2 := Ex.trans (show Ex w5 (World.drew w5) from (Below.refl _ _).drew) hx
                    unfold wpOp
                    simp only [List.getElem?_toArray, List.getElem?_cons_zero, List.getElem?_cons_succ]
                    rw [if_pos (by rfl)]
                    left
                    replace BW := Lib.hid (Ex.trans BW.out bx)
                    replace H := Lib.hid (H.out.ext bx)
                    have c1 := (Below.cell (p := ⟨g, 0, none⟩) bx HGL.out).trans C0.out
                    clear bx hx
                    go_simp
                    go_wp2_with (first | (with_reducible refine stop_load (t := 70) ?_) | (with_reducible refine stop_store (t := 70) ?_) | (with_reducible refine stop_build (t := 70) ?_))
                    (first | (refine ⟨?_, ?measure⟩; (repeat apply Exists.intro); refine ⟨?rel, rfl⟩) | refine ⟨?rel, ?measure⟩)
                    case rel => exact ⟨t + 1, fr, (j : Int), _, by omega, by omega, by omega, by go_num, by go_num, HKN, H, BW⟩
                    case measure => simp [intOf]; omega
          · have r1 : ¬ (i : Int) < (M : Int) := by omega
            go_wp2_with (first | (with_reducible refine stop_load (t := 70) ?_) | (with_reducible refine stop_store (t := 70) ?_) | (with_reducible refine stop_build (t := 70) ?_))
            go_loopw [10, 11] (fun la ii wr => ∃ (i' fr : Nat) (la' : Int) (ls : List (Bool × Lc)), i' + fr = k - d ∧ -1 ≤ la' ∧ la' ≤ 1000 ∧ la = .int .i64 la' ∧ ii = .int .i64 i' ∧ Hid (Ks l k d fr la' ls) ∧ Hid (OF wr O ls) ∧ Hid (Ex w wr)) (fun _ ii _ => (k - d) - (intOf ii).toNat)
            case atStart => exact ⟨0, k - d, -1, ls, by omega, by omega, by omega, rfl, rfl, Lib.hid HH.out.ks, H, BW⟩
            case round =>
              clear H BW HH ls
              obtain ⟨t, fr, la, ls, ht, hla0, hla1, rfl, rfl, HK, H, BW⟩ := hrel
              have s0 : (k : Int) - (d : Int) = ((k - d : Nat) : Int) := by omega
              rcases fr with _ | fr
              · have s1 : ¬ (t : Int) < (k : Int) - (d : Int) := by omega
                obtain ⟨hdl, hdh⟩ := HK.out.done
                have FN := firstO_none hdh
                have HF := Lib.hid (show Fs d 0 ls from ⟨hdl, fun j hj => absurd hj (Nat.not_lt_zero j), fun j _ hj => hdh j (by omega)⟩)
                have HDL := Lib.hid hdl
                clear hdl hdh
                go_wp2_with (first | (with_reducible refine stop_load (t := 70) ?_) | (with_reducible refine stop_store (t := 70) ?_) | (with_reducible refine stop_build (t := 70) ?_))
                refine (first_any O ls wr H.out).mono ?_
                rintro e w2 ⟨rfl, xx⟩
                rw [FN]
                clear FN
                replace BW := Lib.hid (Ex.trans BW.out xx)
                replace H := Lib.hid (H.out.ext xx)
                clear xx
                go_wp2_with (first | (with_reducible refine stop_load (t := 70) ?_) | (with_reducible refine stop_store (t := 70) ?_) | (with_reducible refine stop_build (t := 70) ?_))
                refine (lenO_any O ls w2 H.out).mono ?_
                rintro e w3 ⟨rfl, hw⟩
                rw [HDL.out]
                rw [hw] at H BW
                clear hw HDL HK
                go_wp2_with (first | (with_reducible refine stop_load (t := 70) ?_) | (with_reducible refine stop_store (t := 70) ?_) | (with_reducible refine stop_build (t := 70) ?_))
                go_loopw [15] (fun ii wr => ∃ (i' : Nat) (ls : List (Bool × Lc)), i' ≤ d ∧ ii = .int .i64 i' ∧ Hid (Fs d i' ls) ∧ Hid (OF wr O ls) ∧ Hid (Ex w wr)) (fun ii _ => d - (intOf ii).toNat)
                case atStart => exact ⟨0, ls, by omega, rfl, HF, H, BW⟩
                case round =>
                  clear H BW HF ls
                  obtain ⟨t2, ls, ht2, rfl, HF, H, BW⟩ := hrel
                  by_cases hlt4 : t2 < d
                  · have u1 : (t2 : Int) < (d : Int) := by omega
                    obtain ⟨c, hc⟩ := HF.out.hi t2 (Nat.le_refl _) hlt4
                    have HX := Lib.hid hc
                    clear hc
                    go_wp2_with (first | (with_reducible refine stop_load (t := 70) ?_) | (with_reducible refine stop_store (t := 70) ?_) | (with_reducible refine stop_build (t := 70) ?_))
                    refine (free_yes O ls t2 c wr H.out HX.out).mono ?_
                    rintro e w2 ⟨rfl, hof, hft⟩
                    replace BW := Lib.hid (Below.trans BW.out (hft.below.mono HO.out))
                    replace H := Lib.hid hof
                    clear hof hft
                    go_wp2_with (first | (with_reducible refine stop_load (t := 70) ?_) | (with_reducible refine stop_store (t := 70) ?_) | (with_reducible refine stop_build (t := 70) ?_))
                    (first | (refine ⟨?_, ?measure⟩; (repeat apply Exists.intro); refine ⟨?rel, rfl⟩) | refine ⟨?rel, ?measure⟩)
                    case rel => exact ⟨t2 + 1, _, by omega, by go_num, Lib.hid (HF.out.step hlt4), H, BW⟩
                    case measure => simp [intOf]; omega
                  · obtain rfl : t2 = d := by omega
                    have u1 : ¬ (t2 : Int) < (t2 : Int) := by omega
                    have FE := Lib.hid HF.out.end
                    go_wp2_with (first | (with_reducible refine stop_load (t := 70) ?_) | (with_reducible refine stop_store (t := 70) ?_) | (with_reducible refine stop_build (t := 70) ?_))
                    refine (first_any O ls wr H.out).mono ?_
                    rintro e w2 ⟨rfl, xx⟩
                    replace BW := Lib.hid (Ex.trans BW.out xx)
                    clear xx
                    by_cases hd0 : 0 < t2
                    · rw [FE.out.1 hd0]
                      have u2 : (0 : Int) < (t2 : Int) := by omega
                      go_wp2_with (first | (with_reducible refine stop_load (t := 70) ?_) | (with_reducible refine stop_store (t := 70) ?_) | (with_reducible refine stop_build (t := 70) ?_))
                      refine (known21 w2).mono ?_
                      rintro e w3 ⟨rfl, xx⟩
                      have BW3 := Lib.hid (Ex.trans BW.out xx)
                      clear xx
                      go_wp2_with fail
                      go_ret
                      exact ⟨rfl, BW3.out⟩
                    · rw [FE.out.2 (by omega)]
                      have u2 : ¬ (0 : Int) < (t2 : Int) := by omega
                      go_wp2_with (first | (with_reducible refine stop_load (t := 70) ?_) | (with_reducible refine stop_store (t := 70) ?_) | (with_reducible refine stop_build (t := 70) ?_))
                      refine (known21 w2).mono ?_
                      rintro e w3 ⟨rfl, xx⟩
                      have BW3 := Lib.hid (Ex.trans BW.out xx)
                      clear xx
                      go_wp2_with fail
                      go_ret
                      exact ⟨rfl, BW3.out⟩
              · have s1 : (t : Int) < (k : Int) - (d : Int) := by omega
                obtain ⟨p, j, hpx, hpf, hj, hlj, hks⟩ := HK.out.take
                have HKN := Lib.hid hks
                have HX := Lib.hid hpx
                clear hks hpx HK
                go_wp2_with (first | (with_reducible refine stop_load (t := 70) ?_) | (with_reducible refine stop_store (t := 70) ?_) | (with_reducible refine stop_build (t := 70) ?_))
                refine (first_any O ls wr H.out).mono ?_
                rintro e w2 ⟨rfl, xx⟩
                rw [hpf]
                clear hpf
                replace BW := Lib.hid (Ex.trans BW.out xx)
                replace H := Lib.hid (H.out.ext xx)
                clear xx
                go_wp2_with (first | (with_reducible refine stop_load (t := 70) ?_) | (with_reducible refine stop_store (t := 70) ?_) | (with_reducible refine stop_build (t := 70) ?_))
                refine (take_yes O ls p (pc l j) w2 H.out HX.out).mono ?_
                rintro e w3 ⟨x, rfl, hxc, hln, hof, hft⟩
                replace BW := Lib.hid (Below.trans BW.out (hft.below.mono HO.out))
                replace H := Lib.hid hof
                clear hof hft
                have HL := Lib.hid hln
                have HC := Lib.hid hxc
                clear hln hxc
                go_wp2_with (first | (with_reducible refine stop_load (t := 70) ?_) | (with_reducible refine stop_store (t := 70) ?_) | (with_reducible refine stop_build (t := 70) ?_))
                (with_reducible refine ⟨?_⟩); (with_reducible refine at_any ?_ ?_); (focus go_simp); refine fun K0 hK => st_lx _ _ w3.heap.size 70 Try.sizeLt x rfl rfl rfl HL.out.1 (Bk.new rfl _ _) (by rfl) (fun w5 hd9 ho => hK _ _ ?_)
                clear hK
                have xx : Ex w3 w5 := ho.below w3.heap.size (Nat.le_refl _) w3 (Ex.alloc w3 _)
                replace BW := Lib.hid (Ex.trans BW.out xx)
                replace H := Lib.hid (H.out.ext xx)
                replace HL := Lib.hid (HL.out.ext xx)
                obtain ⟨g, hg⟩ : ∃ g, g = w3.heap.size := ⟨_, rfl⟩
                rw [← hg] at hd9 ⊢
                have HG := Lib.hid hd9
                have HGL := Lib.hid (show g < w5.heap.size from hd9.2.lt)
                clear xx ho hd9 hg
                obtain ⟨ab, o, rfl, ha, hc⟩ := HIN.out.read (by rw [← HML.out]; omega)
                obtain ⟨y, hy⟩ : ∃ y, l[j]? = some y := ⟨_, List.getElem?_eq_getElem (by rw [← HML.out]; omega)⟩
                obtain ⟨S, hS⟩ : ∃ S, S = y.bs.l.take 20 := ⟨_, rfl⟩
                have HYS := Lib.hid hS
                have hxl : x.bs.l = S := by
                  have h := congrArg (·.by_) HC.out
                  rw [show (pc l j).by_ = S from by unfold pc; rw [List.getD_eq_getElem?_getD, hy, hS]; rfl] at h
                  exact h
                have HXS := Lib.hid hxl
                have hxk : x.kind = (j : Int) := congrArg (·.kind) HC.out
                have HXI := Lib.hid HL.out.2.1
                obtain ⟨d0, d1, d2, d3⟩ := LB.cells HG.out
                rw [hxk] at d0
                have C0 := Lib.hid d0
                have C3 := Lib.hid d3
                have YI := Lib.hid ((HIN.out.ins j y hy).ext BW.out)
                have CY : Hid (w5.cell? ⟨ab, o + j * 4 + 3, none⟩ = some y.bs.V) := Lib.hid ((Below.cell (p := ⟨ab, o + j * 4 + 3, none⟩) BW.out ha).trans (hc j y hy 3 _ rfl))
                have HAL := Lib.hid (show ab < w5.heap.size from Nat.lt_of_lt_of_le ha BW.out.sz)
                have v0 : (0 : Int) ≤ (j : Int) := by omega
                have v1 : (j : Int) < (ml : Int) := by omega
                have v2 : (j : Int) < (k : Int) := by omega
                have v3 : ¬ (j : Int) ≤ la := by omega
                have v4 : ¬ (k : Int) ≤ (j : Int) := by omega
                clear d0 d1 d2 d3 hc ha hy hS hxl hxk
                go_wp2_with fail
                obtain ⟨T, hT⟩ : ∃ T : List Sa, T = [.is (.bool true), .is (.bool false), .is (.bool false), .is (.pointer (some ⟨g, 0, none⟩)), .is (.int .i64 j), .is (.int .i64 la), .is (.bool false), .is (.bool false), .is (.bool false), .is (.pointer (some ⟨g, 0, none⟩)), .is (.int .i64 j), .is (.int .i64 k), .is (.bool false), .is (.bool false), .is (.bool false), .is (.pointer (some ⟨g, 3, none⟩)), .is (x.bs.V), .is (.string (strL S)), .is (.slice (some ⟨ab, o, none⟩) ml cap), .is (.pointer (some ⟨g, 0, none⟩)), .is (.int .i64 j), .is (.pointer (some ⟨ab, o + j * 4, none⟩)), .is (.pointer (some ⟨ab, o + j * 4 + 3, none⟩)), .is (y.bs.V), .is (Pt.V ⟨y.bs.ad, y.bs.cap, y.bs.l.take 20⟩), .is (.string (strL S)), .is (.bool false)] := ⟨_, rfl⟩
                refine wp_region_flow 27 (saPhi T) (by kernel_rfl) rfl (by kernel_rfl) (by kernel_rfl) (by kernel_rfl) (saPhi_stable T) (fitB_spec (by kernel_rfl)) ?_ ?_
                · intro i o hi ho
                  have hi' : i = 0 ∨ i = 1 ∨ i = 2 ∨ i = 3 ∨ i = 4 ∨ i = 5 ∨ i = 6 ∨ i = 7 ∨ i = 8 ∨ i = 9 ∨ i = 10 ∨ i = 11 ∨ i = 12 ∨ i = 13 ∨ i = 14 ∨ i = 15 ∨ i = 16 ∨ i = 17 ∨ i = 18 ∨ i = 19 ∨ i = 20 ∨ i = 21 ∨ i = 22 ∨ i = 23 ∨ i = 24 ∨ i = 25 ∨ i = 26 := by omega
                  clear hi
                  rcases hi' with rfl | rfl | rfl | rfl | rfl | rfl | rfl | rfl | rfl | rfl | rfl | rfl | rfl | rfl | rfl | rfl | rfl | rfl | rfl | rfl | rfl | rfl | rfl | rfl | rfl | rfl | rfl
                  all_goals (simp only [List.getElem?_toArray, List.getElem?_cons_zero, List.getElem?_cons_succ, Option.some.injEq] at ho; subst ho; intro a w2 hx hsz hdep hout)
                  · rw [if_pos (by rfl)]
                    intro K hK
                    have q14 := hout 14 (outB_spec (by kernel_rfl))
                    exact wp_mv _ rfl (hK _ _ (Ex.refl _) (by rw [hT]; exact q14))
                  · rw [if_pos (by rfl)]
                    intro K hK
                    obtain ⟨v78, h78, k78⟩ := hdep ⟨0, .data⟩ (by simp) rfl _ rfl
                    have q78 := k78 _ rfl
                    clear k78
                    rw [hT] at h78
                    obtain rfl : v78 = .bool true := h78
                    rw [Array.getD_eq_getD_getElem?] at q78
                    clear hsz hdep hout
                    go_simp
                    exact hK _ _ (Ex.refl _) (by rw [hT]; rfl)
                  · rw [if_pos (by rfl)]
                    intro K hK
                    obtain ⟨v79, h79, k79⟩ := hdep ⟨1, .data⟩ (by simp) rfl _ rfl
                    have q79 := k79 _ rfl
                    clear k79
                    rw [hT] at h79
                    obtain rfl : v79 = .bool false := h79
                    exact wp_mv _ rfl (hK _ _ (Ex.refl _) (by rw [hT]; exact q79))
                  · obtain ⟨vg, hvg, kg⟩ := hdep ⟨2, .guard⟩ (by simp) rfl _ rfl
                    rw [hT] at hvg
                    obtain rfl : vg = .bool false := hvg
                    rw [if_pos (wanted_of rfl rfl rfl (kg _ rfl))]
                    clear kg
                    intro K hK
                    have q13 := hout 13 (outB_spec (by kernel_rfl))
                    rw [Array.getD_eq_getD_getElem?] at q13
                    clear hsz hdep hout
                    go_simp
                    exact hK _ _ (Ex.refl _) (by rw [hT]; rfl)
                  · obtain ⟨vg, hvg, kg⟩ := hdep ⟨2, .guard⟩ (by simp) rfl _ rfl
                    rw [hT] at hvg
                    obtain rfl : vg = .bool false := hvg
                    rw [if_pos (wanted_of rfl rfl rfl (kg _ rfl))]
                    clear kg
                    intro K hK
                    obtain ⟨v81, h81, k81⟩ := hdep ⟨3, .data⟩ (by simp) rfl _ rfl
                    have q81 := k81 _ rfl
                    clear k81
                    rw [hT] at h81
                    obtain rfl : v81 = .pointer (some ⟨g, 0, none⟩) := h81
                    have c1 := (Below.cell (p := ⟨g, 0, none⟩) (Ex.trans (show Ex w5 (World.drew w5) from (Below.refl _ _).drew) hx) HGL.out).trans C0.out
                    rw [Array.getD_eq_getD_getElem?] at q81
                    clear hsz hdep hout
                    go_simp
                    exact hK _ _ (Ex.refl _) (by rw [hT]; rfl)
                  · obtain ⟨vg, hvg, kg⟩ := hdep ⟨2, .guard⟩ (by simp) rfl _ rfl
                    rw [hT] at hvg
                    obtain rfl : vg = .bool false := hvg
                    rw [if_pos (wanted_of rfl rfl rfl (kg _ rfl))]
                    clear kg
                    intro K hK
                    have q10 := hout 10 (outB_spec (by kernel_rfl))
                    exact wp_mv _ rfl (hK _ _ (Ex.refl _) (by rw [hT]; exact q10))
                  · obtain ⟨vg, hvg, kg⟩ := hdep ⟨2, .guard⟩ (by simp) rfl _ rfl
                    rw [hT] at hvg
                    obtain rfl : vg = .bool false := hvg
                    rw [if_pos (wanted_of rfl rfl rfl (kg _ rfl))]
                    clear kg
                    intro K hK
                    obtain ⟨v82, h82, k82⟩ := hdep ⟨4, .data⟩ (by simp) rfl _ rfl
                    have q82 := k82 _ rfl
                    clear k82
                    rw [hT] at h82
                    obtain rfl : v82 = .int .i64 j := h82
                    obtain ⟨v83, h83, k83⟩ := hdep ⟨5, .data⟩ (by simp) rfl _ rfl
                    have q83 := k83 _ rfl
                    clear k83
                    rw [hT] at h83
                    obtain rfl : v83 = .int .i64 la := h83
                    rw [Array.getD_eq_getD_getElem?] at q82
                    rw [Array.getD_eq_getD_getElem?] at q83
                    clear hsz hdep hout
                    go_simp
                    exact hK _ _ (Ex.refl _) (by rw [hT]; exact congrArg Value.bool (decide_eq_false (by omega)))
                  · rw [if_pos (by rfl)]
                    intro K hK
                    obtain ⟨v80, h80, k80⟩ := hdep ⟨2, .data⟩ (by simp) rfl _ rfl
                    have q80 := k80 _ rfl
                    clear k80
                    rw [hT] at h80
                    obtain rfl : v80 = .bool false := h80
                    obtain ⟨v84, h84, k84⟩ := hdep ⟨6, .data⟩ (by simp) rfl _ rfl
                    have q84 := k84 _ rfl
                    clear k84
                    rw [hT] at h84
                    obtain rfl : v84 = .bool false := h84
                    rw [Array.getD_eq_getD_getElem?] at q80
                    rw [Array.getD_eq_getD_getElem?] at q84
                    clear hsz hdep hout
                    go_simp
                    exact hK _ _ (Ex.refl _) (by rw [hT]; rfl)
                  · rw [if_pos (by rfl)]
                    intro K hK
                    obtain ⟨v85, h85, k85⟩ := hdep ⟨7, .data⟩ (by simp) rfl _ rfl
                    have q85 := k85 _ rfl
                    clear k85
                    rw [hT] at h85
                    obtain rfl : v85 = .bool false := h85
                    exact wp_mv _ rfl (hK _ _ (Ex.refl _) (by rw [hT]; exact q85))
                  · obtain ⟨vg, hvg, kg⟩ := hdep ⟨8, .guard⟩ (by simp) rfl _ rfl
                    rw [hT] at hvg
                    obtain rfl : vg = .bool false := hvg
                    rw [if_pos (wanted_of rfl rfl rfl (kg _ rfl))]
                    clear kg
                    intro K hK
                    have q13 := hout 13 (outB_spec (by kernel_rfl))
                    rw [Array.getD_eq_getD_getElem?] at q13
                    clear hsz hdep hout
                    go_simp
                    exact hK _ _ (Ex.refl _) (by rw [hT]; rfl)
                  · obtain ⟨vg, hvg, kg⟩ := hdep ⟨8, .guard⟩ (by simp) rfl _ rfl
                    rw [hT] at hvg
                    obtain rfl : vg = .bool false := hvg
                    rw [if_pos (wanted_of rfl rfl rfl (kg _ rfl))]
                    clear kg
                    intro K hK
                    obtain ⟨v87, h87, k87⟩ := hdep ⟨9, .data⟩ (by simp) rfl _ rfl
                    have q87 := k87 _ rfl
                    clear k87
                    rw [hT] at h87
                    obtain rfl : v87 = .pointer (some ⟨g, 0, none⟩) := h87
                    have c1 := (Below.cell (p := ⟨g, 0, none⟩) (Ex.trans (show Ex w5 (World.drew w5) from (Below.refl _ _).drew) hx) HGL.out).trans C0.out
                    rw [Array.getD_eq_getD_getElem?] at q87
                    clear hsz hdep hout
                    go_simp
                    exact hK _ _ (Ex.refl _) (by rw [hT]; rfl)
                  · obtain ⟨vg, hvg, kg⟩ := hdep ⟨8, .guard⟩ (by simp) rfl _ rfl
                    rw [hT] at hvg
                    obtain rfl : vg = .bool false := hvg
                    rw [if_pos (wanted_of rfl rfl rfl (kg _ rfl))]
                    clear kg
                    intro K hK
                    have q6 := hout 6 (outB_spec (by kernel_rfl))
                    exact wp_mv _ rfl (hK _ _ (Ex.refl _) (by rw [hT]; exact q6))
                  · obtain ⟨vg, hvg, kg⟩ := hdep ⟨8, .guard⟩ (by simp) rfl _ rfl
                    rw [hT] at hvg
                    obtain rfl : vg = .bool false := hvg
                    rw [if_pos (wanted_of rfl rfl rfl (kg _ rfl))]
                    clear kg
                    intro K hK
                    obtain ⟨v88, h88, k88⟩ := hdep ⟨10, .data⟩ (by simp) rfl _ rfl
                    have q88 := k88 _ rfl
                    clear k88
                    rw [hT] at h88
                    obtain rfl : v88 = .int .i64 j := h88
                    obtain ⟨v89, h89, k89⟩ := hdep ⟨11, .data⟩ (by simp) rfl _ rfl
                    have q89 := k89 _ rfl
                    clear k89
                    rw [hT] at h89
                    obtain rfl : v89 = .int .i64 k := h89
                    rw [Array.getD_eq_getD_getElem?] at q88
                    rw [Array.getD_eq_getD_getElem?] at q89
                    clear hsz hdep hout
                    go_simp
                    exact hK _ _ (Ex.refl _) (by rw [hT]; exact congrArg Value.bool (decide_eq_false (by omega)))
                  · rw [if_pos (by rfl)]
                    intro K hK
                    obtain ⟨v86, h86, k86⟩ := hdep ⟨8, .data⟩ (by simp) rfl _ rfl
                    have q86 := k86 _ rfl
                    clear k86
                    rw [hT] at h86
                    obtain rfl : v86 = .bool false := h86
                    obtain ⟨v90, h90, k90⟩ := hdep ⟨12, .data⟩ (by simp) rfl _ rfl
                    have q90 := k90 _ rfl
                    clear k90
                    rw [hT] at h90
                    obtain rfl : v90 = .bool false := h90
                    rw [Array.getD_eq_getD_getElem?] at q86
                    rw [Array.getD_eq_getD_getElem?] at q90
                    clear hsz hdep hout
                    go_simp
                    exact hK _ _ (Ex.refl _) (by rw [hT]; rfl)
                  · rw [if_pos (by rfl)]
                    intro K hK
                    obtain ⟨v91, h91, k91⟩ := hdep ⟨13, .data⟩ (by simp) rfl _ rfl
                    have q91 := k91 _ rfl
                    clear k91
                    rw [hT] at h91
                    obtain rfl : v91 = .bool false := h91
                    exact wp_mv _ rfl (hK _ _ (Ex.refl _) (by rw [hT]; exact q91))
                  · obtain ⟨vg, hvg, kg⟩ := hdep ⟨14, .guard⟩ (by simp) rfl _ rfl
                    rw [hT] at hvg
                    obtain rfl : vg = .bool false := hvg
                    rw [if_pos (wanted_of rfl rfl rfl (kg _ rfl))]
                    clear kg
                    intro K hK
                    have q13 := hout 13 (outB_spec (by kernel_rfl))
                    rw [Array.getD_eq_getD_getElem?] at q13
                    clear hsz hdep hout
                    go_simp
                    exact hK _ _ (Ex.refl _) (by rw [hT]; rfl)
                  · obtain ⟨vg, hvg, kg⟩ := hdep ⟨14, .guard⟩ (by simp) rfl _ rfl
                    rw [hT] at hvg
                    obtain rfl : vg = .bool false := hvg
                    rw [if_pos (wanted_of rfl rfl rfl (kg _ rfl))]
                    clear kg
                    intro K hK
                    obtain ⟨v93, h93, k93⟩ := hdep ⟨15, .data⟩ (by simp) rfl _ rfl
                    have q93 := k93 _ rfl
                    clear k93
                    rw [hT] at h93
                    obtain rfl : v93 = .pointer (some ⟨g, 3, none⟩) := h93
                    have c1 := (Below.cell (p := ⟨g, 3, none⟩) (Ex.trans (show Ex w5 (World.drew w5) from (Below.refl _ _).drew) hx) HGL.out).trans C3.out
                    rw [Array.getD_eq_getD_getElem?] at q93
                    clear hsz hdep hout
                    go_simp
                    exact hK _ _ (Ex.refl _) (by rw [hT]; rfl)
                  · obtain ⟨vg, hvg, kg⟩ := hdep ⟨14, .guard⟩ (by simp) rfl _ rfl
                    rw [hT] at hvg
                    obtain rfl : vg = .bool false := hvg
                    rw [if_pos (wanted_of rfl rfl rfl (kg _ rfl))]
                    clear kg
                    intro K hK
                    obtain ⟨v94, h94, k94⟩ := hdep ⟨16, .data⟩ (by simp) rfl _ rfl
                    have q94 := k94 _ rfl
                    clear k94
                    rw [hT] at h94
                    obtain rfl : v94 = x.bs.V := h94
                    have cv := pt_conv x.bs w2 (Pt.In.ext (HXI.out) (Ex.trans (show Ex w5 (World.drew w5) from (Below.refl _ _).drew) hx))
                    rw [show (x.bs).l = S from HXS.out] at cv
                    unfold Pt.V at q94
                    rw [show (x.bs).l.length = S.length from congrArg List.length HXS.out] at q94
                    rw [Array.getD_eq_getD_getElem?] at q94
                    clear hsz hdep hout
                    go_simp
                    exact hK _ _ (Ex.refl _) (by rw [hT]; rfl)
                  · obtain ⟨vg, hvg, kg⟩ := hdep ⟨14, .guard⟩ (by simp) rfl _ rfl
                    rw [hT] at hvg
                    obtain rfl : vg = .bool false := hvg
                    rw [if_pos (wanted_of rfl rfl rfl (kg _ rfl))]
                    clear kg
                    intro K hK
                    have q0 := hout 0 (outB_spec (by kernel_rfl))
                    exact wp_mv _ rfl (hK _ _ (Ex.refl _) (by rw [hT]; exact q0))
                  · obtain ⟨vg, hvg, kg⟩ := hdep ⟨14, .guard⟩ (by simp) rfl _ rfl
                    rw [hT] at hvg
                    obtain rfl : vg = .bool false := hvg
                    rw [if_pos (wanted_of rfl rfl rfl (kg _ rfl))]
                    clear kg
                    intro K hK
                    have q13 := hout 13 (outB_spec (by kernel_rfl))
                    rw [Array.getD_eq_getD_getElem?] at q13
                    clear hsz hdep hout
                    go_simp
                    exact hK _ _ (Ex.refl _) (by rw [hT]; rfl)
                  · obtain ⟨vg, hvg, kg⟩ := hdep ⟨14, .guard⟩ (by simp) rfl _ rfl
                    rw [hT] at hvg
                    obtain rfl : vg = .bool false := hvg
                    rw [if_pos (wanted_of rfl rfl rfl (kg _ rfl))]
                    clear kg
                    intro K hK
                    obtain ⟨v97, h97, k97⟩ := hdep ⟨19, .data⟩ (by simp) rfl _ rfl
                    have q97 := k97 _ rfl
                    clear k97
                    rw [hT] at h97
                    obtain rfl : v97 = .pointer (some ⟨g, 0, none⟩) := h97
                    have c1 := (Below.cell (p := ⟨g, 0, none⟩) (Ex.trans (show Ex w5 (World.drew w5) from (Below.refl _ _).drew) hx) HGL.out).trans C0.out
                    rw [Array.getD_eq_getD_getElem?] at q97
                    clear hsz hdep hout
                    go_simp
                    exact hK _ _ (Ex.refl _) (by rw [hT]; rfl)
                  · obtain ⟨vg, hvg, kg⟩ := hdep ⟨14, .guard⟩ (by simp) rfl _ rfl
                    rw [hT] at hvg
                    obtain rfl : vg = .bool false := hvg
                    rw [if_pos (wanted_of rfl rfl rfl (kg _ rfl))]
                    clear kg
                    intro K hK
                    obtain ⟨v96, h96, k96⟩ := hdep ⟨18, .data⟩ (by simp) rfl _ rfl
                    have q96 := k96 _ rfl
                    clear k96
                    rw [hT] at h96
                    obtain rfl : v96 = .slice (some ⟨ab, o, none⟩) ml cap := h96
                    obtain ⟨v98, h98, k98⟩ := hdep ⟨20, .data⟩ (by simp) rfl _ rfl
                    have q98 := k98 _ rfl
                    clear k98
                    rw [hT] at h98
                    obtain rfl : v98 = .int .i64 j := h98
                    rw [Array.getD_eq_getD_getElem?] at q96
                    rw [Array.getD_eq_getD_getElem?] at q98
                    clear hsz hdep hout
                    go_simp
                    exact hK _ _ (Ex.refl _) (by rw [hT]; rfl)
                  · obtain ⟨vg, hvg, kg⟩ := hdep ⟨14, .guard⟩ (by simp) rfl _ rfl
                    rw [hT] at hvg
                    obtain rfl : vg = .bool false := hvg
                    rw [if_pos (wanted_of rfl rfl rfl (kg _ rfl))]
                    clear kg
                    intro K hK
                    obtain ⟨v99, h99, k99⟩ := hdep ⟨21, .data⟩ (by simp) rfl _ rfl
                    have q99 := k99 _ rfl
                    clear k99
                    rw [hT] at h99
                    obtain rfl : v99 = .pointer (some ⟨ab, o + j * 4, none⟩) := h99
                    rw [Array.getD_eq_getD_getElem?] at q99
                    clear hsz hdep hout
                    go_simp
                    exact hK _ _ (Ex.refl _) (by rw [hT]; rfl)
                  · obtain ⟨vg, hvg, kg⟩ := hdep ⟨14, .guard⟩ (by simp) rfl _ rfl
                    rw [hT] at hvg
                    obtain rfl : vg = .bool false := hvg
                    rw [if_pos (wanted_of rfl rfl rfl (kg _ rfl))]
                    clear kg
                    intro K hK
                    obtain ⟨v100, h100, k100⟩ := hdep ⟨22, .data⟩ (by simp) rfl _ rfl
                    have q100 := k100 _ rfl
                    clear k100
                    rw [hT] at h100
                    obtain rfl : v100 = .pointer (some ⟨ab, o + j * 4 + 3, none⟩) := h100
                    have c1 := (Below.cell (p := ⟨ab, o + j * 4 + 3, none⟩) (Ex.trans (show Ex w5 (World.drew w5) from (Below.refl _ _).drew) hx) HAL.out).trans CY.out
                    rw [Array.getD_eq_getD_getElem?] at q100
                    clear hsz hdep hout
                    go_simp
                    exact hK _ _ (Ex.refl _) (by rw [hT]; rfl)
                  · obtain ⟨vg, hvg, kg⟩ := hdep ⟨14, .guard⟩ (by simp) rfl _ rfl
                    rw [hT] at hvg
                    obtain rfl : vg = .bool false := hvg
                    rw [if_pos (wanted_of rfl rfl rfl (kg _ rfl))]
                    clear kg
                    intro K hK
                    obtain ⟨v101, h101, k101⟩ := hdep ⟨23, .data⟩ (by simp) rfl _ rfl
                    have q101 := k101 _ rfl
                    clear k101
                    rw [hT] at h101
                    obtain rfl : v101 = y.bs.V := h101
                    rw [Array.getD_eq_getD_getElem?] at q101
                    clear hsz hdep hout
                    go_simp
                    refine (cut_any y.bs 20 (by omega) (by omega) YI.out.n w2 (YI.out.ext (Ex.trans (show Ex w5 (World.drew w5) from (Below.refl _ _).drew) hx)).b).mono ?_
                    rintro e w3 ⟨rfl, rfl⟩
                    exact hK _ _ (Ex.refl _) (by rw [hT]; rfl)
                  · obtain ⟨vg, hvg, kg⟩ := hdep ⟨14, .guard⟩ (by simp) rfl _ rfl
                    rw [hT] at hvg
                    obtain rfl : vg = .bool false := hvg
                    rw [if_pos (wanted_of rfl rfl rfl (kg _ rfl))]
                    clear kg
                    intro K hK
                    obtain ⟨v102, h102, k102⟩ := hdep ⟨24, .data⟩ (by simp) rfl _ rfl
                    have q102 := k102 _ rfl
                    clear k102
                    rw [hT] at h102
                    obtain rfl : v102 = Pt.V ⟨y.bs.ad, y.bs.cap, y.bs.l.take 20⟩ := h102
                    have cv := pt_conv (Pt.mk y.bs.ad y.bs.cap (y.bs.l.take 20)) w2 (Pt.In.ext (YI.out.b.take 20) (Ex.trans (show Ex w5 (World.drew w5) from (Below.refl _ _).drew) hx))
                    rw [show ((Pt.mk y.bs.ad y.bs.cap (y.bs.l.take 20))).l = S from HYS.out.symm] at cv
                    unfold Pt.V at q102
                    rw [show ((Pt.mk y.bs.ad y.bs.cap (y.bs.l.take 20))).l.length = S.length from congrArg List.length HYS.out.symm] at q102
                    rw [Array.getD_eq_getD_getElem?] at q102
                    clear hsz hdep hout
                    go_simp
                    exact hK _ _ (Ex.refl _) (by rw [hT]; rfl)
                  · obtain ⟨vg, hvg, kg⟩ := hdep ⟨14, .guard⟩ (by simp) rfl _ rfl
                    rw [hT] at hvg
                    obtain rfl : vg = .bool false := hvg
                    rw [if_pos (wanted_of rfl rfl rfl (kg _ rfl))]
                    clear kg
                    intro K hK
                    obtain ⟨v95, h95, k95⟩ := hdep ⟨17, .data⟩ (by simp) rfl _ rfl
                    have q95 := k95 _ rfl
                    clear k95
                    rw [hT] at h95
                    obtain rfl : v95 = .string (strL S) := h95
                    obtain ⟨v103, h103, k103⟩ := hdep ⟨25, .data⟩ (by simp) rfl _ rfl
                    have q103 := k103 _ rfl
                    clear k103
                    rw [hT] at h103
                    obtain rfl : v103 = .string (strL S) := h103
                    rw [Array.getD_eq_getD_getElem?] at q95
                    rw [Array.getD_eq_getD_getElem?] at q103
                    clear hsz hdep hout
                    go_simp
                    exact hK _ _ (Ex.refl _) (by rw [hT]; rfl)
                · intro a w2 hx hdef hsz hdone hout
                  obtain ⟨v92, h92, k92⟩ := hdone 14 _ (by omega) rfl
                  have q92 := k92 _ rfl
                  clear k92
                  rw [hT] at h92
                  obtain rfl : v92 = .bool false := h92
                  obtain ⟨v104, h104, k104⟩ := hdone 26 _ (by omega) rfl
                  have q104 := k104 _ rfl
                  clear k104
                  rw [hT] at h104
                  obtain rfl : v104 = .bool false := h104
                  clear hdone hT
                  have hA := arr_range a.tmps 135 hsz
                  change a.tmps = #[a.tmps[0]?.getD undef, a.tmps[1]?.getD undef, a.tmps[2]?.getD undef, a.tmps[3]?.getD undef, a.tmps[4]?.getD undef, a.tmps[5]?.getD undef, a.tmps[6]?.getD undef, a.tmps[7]?.getD undef, a.tmps[8]?.getD undef, a.tmps[9]?.getD undef, a.tmps[10]?.getD undef, a.tmps[11]?.getD undef, a.tmps[12]?.getD undef, a.tmps[13]?.getD undef, a.tmps[14]?.getD undef, a.tmps[15]?.getD undef, a.tmps[16]?.getD undef, a.tmps[17]?.getD undef, a.tmps[18]?.getD undef, a.tmps[19]?.getD undef, a.tmps[20]?.getD undef, a.tmps[21]?.getD undef, a.tmps[22]?.getD undef, a.tmps[23]?.getD undef, a.tmps[24]?.getD undef, a.tmps[25]?.getD undef, a.tmps[26]?.getD undef, a.tmps[27]?.getD undef, a.tmps[28]?.getD undef, a.tmps[29]?.getD undef, a.tmps[30]?.getD undef, a.tmps[31]?.getD undef, a.tmps[32]?.getD undef, a.tmps[33]?.getD undef, a.tmps[34]?.getD undef, a.tmps[35]?.getD undef, a.tmps[36]?.getD undef, a.tmps[37]?.getD undef, a.tmps[38]?.getD undef, a.tmps[39]?.getD undef, a.tmps[40]?.getD undef, a.tmps[41]?.getD undef, a.tmps[42]?.getD undef, a.tmps[43]?.getD undef, a.tmps[44]?.getD undef, a.tmps[45]?.getD undef, a.tmps[46]?.getD undef, a.tmps[47]?.getD undef, a.tmps[48]?.getD undef, a.tmps[49]?.getD undef, a.tmps[50]?.getD undef, a.tmps[51]?.getD undef, a.tmps[52]?.getD undef, a.tmps[53]?.getD undef, a.tmps[54]?.getD undef, a.tmps[55]?.getD undef, a.tmps[56]?.getD undef, a.tmps[57]?.getD undef, a.tmps[58]?.getD undef, a.tmps[59]?.getD undef, a.tmps[60]?.getD undef, a.tmps[61]?.getD undef, a.tmps[62]?.getD undef, a.tmps[63]?.getD undef, a.tmps[64]?.getD undef, a.tmps[65]?.getD undef, a.tmps[66]?.getD undef, a.tmps[67]?.getD undef, a.tmps[68]?.getD undef, a.tmps[69]?.getD undef, a.tmps[70]?.getD undef, a.tmps[71]?.getD undef, a.tmps[72]?.getD undef, a.tmps[73]?.getD undef, a.tmps[74]?.getD undef, a.tmps[75]?.getD undef, a.tmps[76]?.getD undef, a.tmps[77]?.getD undef, a.tmps[78]?.getD undef, a.tmps[79]?.getD undef, a.tmps[80]?.getD undef, a.tmps[81]?.getD undef, a.tmps[82]?.getD undef, a.tmps[83]?.getD undef, a.tmps[84]?.getD undef, a.tmps[85]?.getD undef, a.tmps[86]?.getD undef, a.tmps[87]?.getD undef, a.tmps[88]?.getD undef, a.tmps[89]?.getD undef, a.tmps[90]?.getD undef, a.tmps[91]?.getD undef, a.tmps[92]?.getD undef, a.tmps[93]?.getD undef, a.tmps[94]?.getD undef, a.tmps[95]?.getD undef, a.tmps[96]?.getD undef, a.tmps[97]?.getD undef, a.tmps[98]?.getD undef, a.tmps[99]?.getD undef, a.tmps[100]?.getD undef, a.tmps[101]?.getD undef, a.tmps[102]?.getD undef, a.tmps[103]?.getD undef, a.tmps[104]?.getD undef, a.tmps[105]?.getD undef, a.tmps[106]?.getD undef, a.tmps[107]?.getD undef, a.tmps[108]?.getD undef, a.tmps[109]?.getD undef, a.tmps[110]?.getD undef, a.tmps[111]?.getD undef, a.tmps[112]?.getD undef, a.tmps[113]?.getD undef, a.tmps[114]?.getD undef, a.tmps[115]?.getD undef, a.tmps[116]?.getD undef, a.tmps[117]?.getD undef, a.tmps[118]?.getD undef, a.tmps[119]?.getD undef, a.tmps[120]?.getD undef, a.tmps[121]?.getD undef, a.tmps[122]?.getD undef, a.tmps[123]?.getD undef, a.tmps[124]?.getD undef, a.tmps[125]?.getD undef, a.tmps[126]?.getD undef, a.tmps[127]?.getD undef, a.tmps[128]?.getD undef, a.tmps[129]?.getD undef, a.tmps[130]?.getD undef, a.tmps[131]?.getD undef, a.tmps[132]?.getD undef, a.tmps[133]?.getD undef, a.tmps[134]?.getD undef] at hA
                  have e0 := hout 0 (fun i o _ h => outB_spec (by kernel_rfl) i o h)
                  have e1 := hout 1 (fun i o _ h => outB_spec (by kernel_rfl) i o h)
                  have e2 := hout 2 (fun i o _ h => outB_spec (by kernel_rfl) i o h)
                  have e3 := hout 3 (fun i o _ h => outB_spec (by kernel_rfl) i o h)
                  have e4 := hout 4 (fun i o _ h => outB_spec (by kernel_rfl) i o h)
                  have e5 := hout 5 (fun i o _ h => outB_spec (by kernel_rfl) i o h)
                  have e6 := hout 6 (fun i o _ h => outB_spec (by kernel_rfl) i o h)
                  have e7 := hout 7 (fun i o _ h => outB_spec (by kernel_rfl) i o h)
                  have e8 := hout 8 (fun i o _ h => outB_spec (by kernel_rfl) i o h)
                  have e9 := hout 9 (fun i o _ h => outB_spec (by kernel_rfl) i o h)
                  have e10 := hout 10 (fun i o _ h => outB_spec (by kernel_rfl) i o h)
                  have e11 := hout 11 (fun i o _ h => outB_spec (by kernel_rfl) i o h)
                  have e12 := hout 12 (fun i o _ h => outB_spec (by kernel_rfl) i o h)
                  have e13 := hout 13 (fun i o _ h => outB_spec (by kernel_rfl) i o h)
                  have e14 := hout 14 (fun i o _ h => outB_spec (by kernel_rfl) i o h)
                  have e15 := hout 15 (fun i o _ h => outB_spec (by kernel_rfl) i o h)
                  have e16 := hout 16 (fun i o _ h => outB_spec (by kernel_rfl) i o h)
                  have e17 := hout 17 (fun i o _ h => outB_spec (by kernel_rfl) i o h)
                  have e18 := hout 18 (fun i o _ h => outB_spec (by kernel_rfl) i o h)
                  have e19 := hout 19 (fun i o _ h => outB_spec (by kernel_rfl) i o h)
                  have e20 := hout 20 (fun i o _ h => outB_spec (by kernel_rfl) i o h)
                  have e21 := hout 21 (fun i o _ h => outB_spec (by kernel_rfl) i o h)
                  have e22 := hout 22 (fun i o _ h => outB_spec (by kernel_rfl) i o h)
                  have e23 := hout 23 (fun i o _ h => outB_spec (by kernel_rfl) i o h)
                  have e24 := hout 24 (fun i o _ h => outB_spec (by kernel_rfl) i o h)
                  have e25 := hout 25 (fun i o _ h => outB_spec (by kernel_rfl) i o h)
                  have e26 := hout 26 (fun i o _ h => outB_spec (by kernel_rfl) i o h)
                  have e27 := hout 27 (fun i o _ h => outB_spec (by kernel_rfl) i o h)
                  have e28 := hout 28 (fun i o _ h => outB_spec (by kernel_rfl) i o h)
                  have e29 := hout 29 (fun i o _ h => outB_spec (by kernel_rfl) i o h)
                  have e30 := hout 30 (fun i o _ h => outB_spec (by kernel_rfl) i o h)
                  have e31 := hout 31 (fun i o _ h => outB_spec (by kernel_rfl) i o h)
                  have e32 := hout 32 (fun i o _ h => outB_spec (by kernel_rfl) i o h)
                  have e33 := hout 33 (fun i o _ h => outB_spec (by kernel_rfl) i o h)
                  have e34 := hout 34 (fun i o _ h => outB_spec (by kernel_rfl) i o h)
                  have e35 := hout 35 (fun i o _ h => outB_spec (by kernel_rfl) i o h)
                  have e36 := hout 36 (fun i o _ h => outB_spec (by kernel_rfl) i o h)
                  have e37 := hout 37 (fun i o _ h => outB_spec (by kernel_rfl) i o h)
                  have e38 := hout 38 (fun i o _ h => outB_spec (by kernel_rfl) i o h)
                  have e39 := hout 39 (fun i o _ h => outB_spec (by kernel_rfl) i o h)
                  have e40 := hout 40 (fun i o _ h => outB_spec (by kernel_rfl) i o h)
                  have e41 := hout 41 (fun i o _ h => outB_spec (by kernel_rfl) i o h)
                  have e42 := hout 42 (fun i o _ h => outB_spec (by kernel_rfl) i o h)
                  have e43 := hout 43 (fun i o _ h => outB_spec (by kernel_rfl) i o h)
                  have e44 := hout 44 (fun i o _ h => outB_spec (by kernel_rfl) i o h)
                  have e45 := hout 45 (fun i o _ h => outB_spec (by kernel_rfl) i o h)
                  have e46 := hout 46 (fun i o _ h => outB_spec (by kernel_rfl) i o h)
                  have e47 := hout 47 (fun i o _ h => outB_spec (by kernel_rfl) i o h)
                  have e48 := hout 48 (fun i o _ h => outB_spec (by kernel_rfl) i o h)
                  have e49 := hout 49 (fun i o _ h => outB_spec (by kernel_rfl) i o h)
                  have e50 := hout 50 (fun i o _ h => outB_spec (by kernel_rfl) i o h)
                  have e51 := hout 51 (fun i o _ h => outB_spec (by kernel_rfl) i o h)
                  have e52 := hout 52 (fun i o _ h => outB_spec (by kernel_rfl) i o h)
                  have e53 := hout 53 (fun i o _ h => outB_spec (by kernel_rfl) i o h)
                  have e54 := hout 54 (fun i o _ h => outB_spec (by kernel_rfl) i o h)
                  have e55 := hout 55 (fun i o _ h => outB_spec (by kernel_rfl) i o h)
                  have e56 := hout 56 (fun i o _ h => outB_spec (by kernel_rfl) i o h)
                  have e57 := hout 57 (fun i o _ h => outB_spec (by kernel_rfl) i o h)
                  have e58 := hout 58 (fun i o _ h => outB_spec (by kernel_rfl) i o h)
                  have e59 := hout 59 (fun i o _ h => outB_spec (by kernel_rfl) i o h)
                  have e60 := hout 60 (fun i o _ h => outB_spec (by kernel_rfl) i o h)
                  have e61 := hout 61 (fun i o _ h => outB_spec (by kernel_rfl) i o h)
                  have e62 := hout 62 (fun i o _ h => outB_spec (by kernel_rfl) i o h)
                  have e63 := hout 63 (fun i o _ h => outB_spec (by kernel_rfl) i o h)
                  have e64 := hout 64 (fun i o _ h => outB_spec (by kernel_rfl) i o h)
                  have e65 := hout 65 (fun i o _ h => outB_spec (by kernel_rfl) i o h)
                  have e66 := hout 66 (fun i o _ h => outB_spec (by kernel_rfl) i o h)
                  have e67 := hout 67 (fun i o _ h => outB_spec (by kernel_rfl) i o h)
                  have e68 := hout 68 (fun i o _ h => outB_spec (by kernel_rfl) i o h)
                  have e69 := hout 69 (fun i o _ h => outB_spec (by kernel_rfl) i o h)
                  have e70 := hout 70 (fun i o _ h => outB_spec (by kernel_rfl) i o h)
                  have e71 := hout 71 (fun i o _ h => outB_spec (by kernel_rfl) i o h)
                  have e72 := hout 72 (fun i o _ h => outB_spec (by kernel_rfl) i o h)
                  have e73 := hout 73 (fun i o _ h => outB_spec (by kernel_rfl) i o h)
                  have e74 := hout 74 (fun i o _ h => outB_spec (by kernel_rfl) i o h)
                  have e75 := hout 75 (fun i o _ h => outB_spec (by kernel_rfl) i o h)
                  have e76 := hout 76 (fun i o _ h => outB_spec (by kernel_rfl) i o h)
                  have e77 := hout 77 (fun i o _ h => outB_spec (by kernel_rfl) i o h)
                  have e106 := hout 106 (fun i o _ h => outB_spec (by kernel_rfl) i o h)
                  have e107 := hout 107 (fun i o _ h => outB_spec (by kernel_rfl) i o h)
                  have e108 := hout 108 (fun i o _ h => outB_spec (by kernel_rfl) i o h)
                  have e109 := hout 109 (fun i o _ h => outB_spec (by kernel_rfl) i o h)
                  have e110 := hout 110 (fun i o _ h => outB_spec (by kernel_rfl) i o h)
                  have e111 := hout 111 (fun i o _ h => outB_spec (by kernel_rfl) i o h)
                  have e112 := hout 112 (fun i o _ h => outB_spec (by kernel_rfl) i o h)
                  have e113 := hout 113 (fun i o _ h => outB_spec (by kernel_rfl) i o h)
                  have e114 := hout 114 (fun i o _ h => outB_spec (by kernel_rfl) i o h)
                  have e115 := hout 115 (fun i o _ h => outB_spec (by kernel_rfl) i o h)
                  have e116 := hout 116 (fun i o _ h => outB_spec (by kernel_rfl) i o h)
                  have e117 := hout 117 (fun i o _ h => outB_spec (by kernel_rfl) i o h)
                  have e118 := hout 118 (fun i o _ h => outB_spec (by kernel_rfl) i o h)
                  have e119 := hout 119 (fun i o _ h => outB_spec (by kernel_rfl) i o h)
                  have e120 := hout 120 (fun i o _ h => outB_spec (by kernel_rfl) i o h)
                  have e121 := hout 121 (fun i o _ h => outB_spec (by kernel_rfl) i o h)
                  have e122 := hout 122 (fun i o _ h => outB_spec (by kernel_rfl) i o h)
                  have e123 := hout 123 (fun i o _ h => outB_spec (by kernel_rfl) i o h)
                  have e124 := hout 124 (fun i o _ h => outB_spec (by kernel_rfl) i o h)
                  have e125 := hout 125 (fun i o _ h => outB_spec (by kernel_rfl) i o h)
                  have e126 := hout 126 (fun i o _ h => outB_spec (by kernel_rfl) i o h)
                  have e127 := hout 127 (fun i o _ h => outB_spec (by kernel_rfl) i o h)
                  have e128 := hout 128 (fun i o _ h => outB_spec (by kernel_rfl) i o h)
                  have e129 := hout 129 (fun i o _ h => outB_spec (by kernel_rfl) i o h)
                  have e130 := hout 130 (fun i o _ h => outB_spec (by kernel_rfl) i o h)
                  have e131 := hout 131 (fun i o _ h => outB_spec (by kernel_rfl) i o h)
                  have e132 := hout 132 (fun i o _ h => outB_spec (by kernel_rfl) i o h)
                  have e133 := hout 133 (fun i o _ h => outB_spec (by kernel_rfl) i o h)
                  have e134 := hout 134 (fun i o _ h => outB_spec (by kernel_rfl) i o h)
                  simp only [Array.getD_eq_getD_getElem?, List.getElem?_toArray, List.getElem?_cons_zero, List.getElem?_cons_succ, Option.getD_some] at e0 e1 e2 e3 e4 e5 e6 e7 e8 e9 e10 e11 e12 e13 e14 e15 e16 e17 e18 e19 e20 e21 e22 e23 e24 e25 e26 e27 e28 e29 e30 e31 e32 e33 e34 e35 e36 e37 e38 e39 e40 e41 e42 e43 e44 e45 e46 e47 e48 e49 e50 e51 e52 e53 e54 e55 e56 e57 e58 e59 e60 e61 e62 e63 e64 e65 e66 e67 e68 e69 e70 e71 e72 e73 e74 e75 e76 e77 e106 e107 e108 e109 e110 e111 e112 e113 e114 e115 e116 e117 e118 e119 e120 e121 e122 e123 e124 e125 e126 e127 e128 e129 e130 e131 e132 e133 e134
                  rw [e0, e1, e2, e3, e4, e5, e6, e7, e8, e9, e10, e11, e12, e13, e14, e15, e16, e17, e18, e19, e20, e21, e22, e23, e24, e25, e26, e27, e28, e29, e30, e31, e32, e33, e34, e35, e36, e37, e38, e39, e40, e41, e42, e43, e44, e45, e46, e47, e48, e49, e50, e51, e52, e53, e54, e55, e56, e57, e58, e59, e60, e61, e62, e63, e64, e65, e66, e67, e68, e69, e70, e71, e72, e73, e74, e75, e76, e77, e106, e107, e108, e109, e110, e111, e112, e113, e114, e115, e116, e117, e118, e119, e120, e121, e122, e123, e124, e125, e126, e127, e128, e129, e130, e131, e132, e133, e134] at hA
                  clear e0 e1 e2 e3 e4 e5 e6 e7 e8 e9 e10 e11 e12 e13 e14 e15 e16 e17 e18 e19 e20 e21 e22 e23 e24 e25 e26 e27 e28 e29 e30 e31 e32 e33 e34 e35 e36 e37 e38 e39 e40 e41 e42 e43 e44 e45 e46 e47 e48 e49 e50 e51 e52 e53 e54 e55 e56 e57 e58 e59 e60 e61 e62 e63 e64 e65 e66 e67 e68 e69 e70 e71 e72 e73 e74 e75 e76 e77 e106 e107 e108 e109 e110 e111 e112 e113 e114 e115 e116 e117 e118 e119 e120 e121 e122 e123 e124 e125 e126 e127 e128 e129 e130 e131 e132 e133 e134 hout
                  have hds2 : a.defers = [] := hdef
                  have ea : a = ⟨a.tmps, a.defers⟩ := rfl
                  rw [Array.getD_eq_getD_getElem?] at q92
                  rw [Array.getD_eq_getD_getElem?] at q104
                  rw [hA, hds2, q92, q104] at ea
                  clear hA hds2 q92 q104 hdef
                  generalize a.tmps[78]?.getD undef = y78 at ea
                  generalize a.tmps[79]?.getD undef = y79 at ea
                  generalize a.tmps[80]?.getD undef = y80 at ea
                  generalize a.tmps[81]?.getD undef = y81 at ea
                  generalize a.tmps[82]?.getD undef = y82 at ea
                  generalize a.tmps[83]?.getD undef = y83 at ea
                  generalize a.tmps[84]?.getD undef = y84 at ea
                  generalize a.tmps[85]?.getD undef = y85 at ea
                  generalize a.tmps[86]?.getD undef = y86 at ea
                  generalize a.tmps[87]?.getD undef = y87 at ea
                  generalize a.tmps[88]?.getD undef = y88 at ea
                  generalize a.tmps[89]?.getD undef = y89 at ea
                  generalize a.tmps[90]?.getD undef = y90 at ea
                  generalize a.tmps[91]?.getD undef = y91 at ea
                  generalize a.tmps[93]?.getD undef = y93 at ea
                  generalize a.tmps[94]?.getD undef = y94 at ea
                  generalize a.tmps[95]?.getD undef = y95 at ea
                  generalize a.tmps[96]?.getD undef = y96 at ea
                  generalize a.tmps[97]?.getD undef = y97 at ea
                  generalize a.tmps[98]?.getD undef = y98 at ea
                  generalize a.tmps[99]?.getD undef = y99 at ea
                  generalize a.tmps[100]?.getD undef = y100 at ea
                  generalize a.tmps[101]?.getD undef = y101 at ea
                  generalize a.tmps[102]?.getD undef = y102 at ea
                  generalize a.tmps[103]?.getD undef = y103 at ea
                  generalize a.tmps[105]?.getD undef = y105 at ea
                  clear hsz
                  subst ea
                  have bx : Ex w5 w2 := Ex.trans (show Ex w5 (World.drew w5) from (Below.refl _ _).drew) hx
                  unfold wpOp
                  simp only [List.getElem?_toArray, List.getElem?_cons_zero, List.getElem?_cons_succ]
                  rw [if_pos (by rfl)]
                  left
                  replace BW := Lib.hid (Ex.trans BW.out bx)
                  replace H := Lib.hid (H.out.ext bx)
                  have c1 := (Below.cell (p := ⟨g, 0, none⟩) bx HGL.out).trans C0.out
                  clear bx hx
                  go_simp
                  go_wp2_with (first | (with_reducible refine stop_load (t := 70) ?_) | (with_reducible refine stop_store (t := 70) ?_) | (with_reducible refine stop_build (t := 70) ?_))
                  (first | (refine ⟨?_, ?measure⟩; (repeat apply Exists.intro); refine ⟨?rel, rfl⟩) | refine ⟨?rel, ?measure⟩)
                  case rel => exact ⟨t + 1, fr, (j : Int), _, by omega, by omega, by omega, by go_num, by go_num, HKN, H, BW⟩
                  case measure => simp [intOf]; omega
end Go.Proofs.Ytedljddjmojeeaa
