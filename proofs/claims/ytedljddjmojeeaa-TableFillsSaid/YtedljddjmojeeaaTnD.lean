/- TableFills walked, one way of four -/
import Derived.Test.YtedljddjmojeeaaTm
namespace Go.Proofs.Ytedljddjmojeeaa
open Go.RowKit
set_option maxHeartbeats 4000000 in
set_option maxRecDepth 100000 in
theorem fills_D (ad1 ad2 : Option Addr) (cap1 cap2 : Nat) (l1 l2 : List Kv) (hL1 : l1.length ≤ 9223372036854775807) (hL2 : l2.length ≤ 9223372036854775807) (hs1 : 4 < l1.length) (hs2 : 4 < l2.length) (w : World) (hin1 : Kvp.In ad1 cap1 l1 w) (hin2 : Kvp.In ad2 cap2 l2 w) : Calls Try.prog 8 #[.slice ad1 l1.length cap1, .slice ad2 l2.length cap2] w fun e w' => e = .returned (.bool true) ∧ Ex w w' := by
  have HI1 := Lib.hid hin1
  have HI2 := Lib.hid hin2
  obtain ⟨n1, hn1⟩ : ∃ n, n = l1.length := ⟨_, rfl⟩
  obtain ⟨n2, hn2⟩ : ∃ n, n = l2.length := ⟨_, rfl⟩
  rw [← hn1] at hL1 hs1 ⊢
  rw [← hn2] at hL2 hs2 ⊢
  have HN1 := Lib.hid hn1
  have HN2 := Lib.hid hn2
  clear hn1 hn2 hin1 hin2
  go_enter Try.func8, Try.ntmps8
  go_wp2_with (first | (with_reducible refine stop_load (t := 30) ?_) | (with_reducible refine stop_store (t := 30) ?_) | (with_reducible refine stop_load (t := 24) ?_) | (with_reducible refine stop_store (t := 24) ?_) | (with_reducible refine stop_load (t := 48) ?_) | (with_reducible refine stop_store (t := 48) ?_) | (with_reducible refine stop_build (t := 30) ?_) | (with_reducible refine stop_bs (t := 59) ?_) | (with_reducible refine stop_app ?_))
  refine (tnew_any w).mono ?_
  rintro e w1 ⟨D, rfl, hD, ht, x1⟩
  have HD := Lib.hid hD
  have HT := Lib.hid ht
  have BW := Lib.hid x1
  clear hD ht x1
  go_wp2_with (first | (with_reducible refine stop_load (t := 30) ?_) | (with_reducible refine stop_store (t := 30) ?_) | (with_reducible refine stop_load (t := 24) ?_) | (with_reducible refine stop_store (t := 24) ?_) | (with_reducible refine stop_load (t := 48) ?_) | (with_reducible refine stop_store (t := 48) ?_) | (with_reducible refine stop_build (t := 30) ?_) | (with_reducible refine stop_bs (t := 59) ?_) | (with_reducible refine stop_app ?_))
  have HS1 : Hid (w.heap.size ≤ w1.heap.size) := Lib.hid BW.out.sz'
  go_loopw [6, 8] (fun v i wr => ∃ (k : Nat) (xs : List Vt), k ≤ 4 ∧ k ≤ n1 ∧ i = .int .i64 k ∧ Hid (VRow wr w1.heap.size v xs) ∧ Hid (Made 0 xs ∧ xs.length = k) ∧ Hid (Ex w1 wr)) (fun _ i _ => 4 - (intOf i).toNat)
  case atStart => exact ⟨0, [], by omega, by omega, rfl, Lib.hid (VRow.nil _ _), Lib.hid ⟨Made.nil _, rfl⟩, Lib.hid (Ex.refl _)⟩
  case round =>
    obtain ⟨k, xs, hk4, hk, rfl, VR, HM, BX⟩ := hrel
    by_cases hlt : k < 4
    · have q0 : (0 : Int) ≤ (k : Int) := by omega
      have q1 : (k : Int) < (n1 : Int) := by omega
      have q2 : (k : Int) < 4 := by omega
      obtain ⟨x, hx⟩ : ∃ x, l1[k]? = some x := ⟨_, List.getElem?_eq_getElem (by rw [← HN1.out]; omega)⟩
      obtain ⟨ab, o, rfl, hab2, hra⟩ := (HI1.out.ext (Ex.trans BW.out BX.out)).read (by rw [← HN1.out]; omega)
      have XR := Lib.hid (hra k x hx)
      have XV := Lib.hid ((HI1.out.ins k x hx).ext (Ex.trans BW.out BX.out))
      clear hra hab2 hx
      go_wp2_with (first | (with_reducible refine stop_load (t := 30) ?_) | (with_reducible refine stop_store (t := 30) ?_) | (with_reducible refine stop_load (t := 24) ?_) | (with_reducible refine stop_store (t := 24) ?_) | (with_reducible refine stop_load (t := 48) ?_) | (with_reducible refine stop_store (t := 48) ?_) | (with_reducible refine stop_build (t := 30) ?_) | (with_reducible refine stop_bs (t := 59) ?_) | (with_reducible refine stop_app ?_))
      (with_reducible refine ⟨?_⟩); (with_reducible refine at_any ?_ ?_); (focus go_simp); refine fun K0 hK => ld_kv _ ab (o + k * 8) x rfl rfl XR.out (hK _ _ ?_)
      clear hK
      have hu : (2 * (k : Int)) = ((UInt8.ofNat (2 * k + 0)).toNat : Int) := by
        rcases (show k = 0 ∨ k = 1 ∨ k = 2 ∨ k = 3 by omega) with rfl | rfl | rfl | rfl <;> rfl
      have HU := Lib.hid hu
      clear hu
      go_wp2_with (first | (with_reducible refine stop_load (t := 30) ?_) | (with_reducible refine stop_store (t := 30) ?_) | (with_reducible refine stop_load (t := 24) ?_) | (with_reducible refine stop_store (t := 24) ?_) | (with_reducible refine stop_load (t := 48) ?_) | (with_reducible refine stop_store (t := 48) ?_) | (with_reducible refine stop_build (t := 30) ?_) | (with_reducible refine stop_bs (t := 59) ?_) | (with_reducible refine stop_app ?_))
      rw [HU.out]
      refine (kv_any x [UInt8.ofNat (2 * k + 0), 0, 0, 0] rfl wr XV.out).mono ?_
      rintro e w3 ⟨z, rfl, hzn, hzi, hzr, x3⟩
      have HZ := Lib.hid hzn
      have HZI := Lib.hid (And.intro hzr hzi)
      replace BX := Lib.hid (Ex.trans BX.out x3)
      replace VR := Lib.hid (VR.out.ext x3)
      clear hzn hzi hzr x3
      go_wp2_with (first | (with_reducible refine stop_load (t := 30) ?_) | (with_reducible refine stop_store (t := 30) ?_) | (with_reducible refine stop_load (t := 24) ?_) | (with_reducible refine stop_store (t := 24) ?_) | (with_reducible refine stop_load (t := 48) ?_) | (with_reducible refine stop_store (t := 48) ?_) | (with_reducible refine stop_build (t := 30) ?_) | (with_reducible refine stop_bs (t := 59) ?_) | (with_reducible refine stop_app ?_))
      (with_reducible refine ⟨?_⟩); (with_reducible refine at_any ?_ ?_); (focus go_simp); refine fun K0 hK => wp_bsv _ z HZ.out.ok rfl rfl (hK _ _ ?_)
      clear hK
      have xa := Ex.alloc w3 (.cells z.C.toArray 30)
      have NB := Lib.hid (Bk.new (g := w3.heap.size) (w := w3) rfl 30 z.C.toArray)
      replace HZ := Lib.hid (HZ.out.ext xa)
      replace BX := Lib.hid (Ex.trans BX.out xa)
      replace VR := Lib.hid (VR.out.ext xa)
      generalize hw4 : w3.alloc (.cells z.C.toArray 30) = w4 at *
      obtain ⟨g2, hg⟩ : ∃ g, g = w3.heap.size := ⟨_, rfl⟩
      rw [← hg] at NB ⊢
      clear hw4 hg xa
      have MR := Lib.hid (Many.rd (n := 1) (sz := 42) ⟨g2, rfl, NB.out⟩ (Vt.len HZ.out.ok))
      go_wp2_with (first | (with_reducible refine stop_load (t := 30) ?_) | (with_reducible refine stop_store (t := 30) ?_) | (with_reducible refine stop_load (t := 24) ?_) | (with_reducible refine stop_store (t := 24) ?_) | (with_reducible refine stop_load (t := 48) ?_) | (with_reducible refine stop_store (t := 48) ?_) | (with_reducible refine stop_build (t := 30) ?_) | (with_reducible refine stop_bs (t := 59) ?_) | (with_reducible refine stop_app ?_))
      obtain ⟨adx, ex, nx, rx⟩ := MR.out
      cases ex
      have RX := Lib.hid rx
      clear rx nx MR
      (with_reducible refine ⟨?_⟩); (with_reducible refine at_any ?_ ?_); (focus go_simp); refine fun K0 hK => wp_rd _ _ 59 30 zeroVt.V 42 96 rfl Try.underlying59 Try.infoVt rfl (by decide) w1.heap.size xs.length _ _ rfl VR.out.row BX.out.sz' _ 1 1 _ rfl RX.out (Nat.le_refl _) (fun h => by cases h) (Vt.C_one z) (by have := HM.out.2; omega) (by have := HM.out.2; omega) (fun v5 w5 r1 r2 => hK _ _ ?_)
      clear hK
      replace BX := Lib.hid (show Ex w1 w5 from Below.trans (show Below w1.heap.size w1 _ from BX.out) r2.below)
      replace VR := Lib.hid (VR.out.app r2 r1 HZ.out)
      replace HM : Hid (Made 0 (xs ++ [z]) ∧ (xs ++ [z]).length = k + 1) := Lib.hid ⟨HM.out.1.app (by rw [HM.out.2]; omega) HZI.out.1 (by rw [HM.out.2]; exact HZI.out.2), by rw [List.length_append, HM.out.2]; rfl⟩
      clear r1 r2
      go_wp2_with (first | (with_reducible refine stop_load (t := 30) ?_) | (with_reducible refine stop_store (t := 30) ?_) | (with_reducible refine stop_load (t := 24) ?_) | (with_reducible refine stop_store (t := 24) ?_) | (with_reducible refine stop_load (t := 48) ?_) | (with_reducible refine stop_store (t := 48) ?_) | (with_reducible refine stop_build (t := 30) ?_) | (with_reducible refine stop_bs (t := 59) ?_) | (with_reducible refine stop_app ?_))
      (first | (refine ⟨?_, ?measure⟩; (repeat apply Exists.intro); refine ⟨?rel, rfl⟩) | refine ⟨?rel, ?measure⟩)
      case rel => exact ⟨k + 1, xs ++ [z], by omega, by omega, by go_num, VR, HM, BX⟩
      case measure => simp [intOf]; omega
    · obtain rfl : k = 4 := by omega
      have q1 : (4 : Int) < (n1 : Int) := by omega
      go_wp2_with (first | (with_reducible refine stop_load (t := 30) ?_) | (with_reducible refine stop_store (t := 30) ?_) | (with_reducible refine stop_load (t := 24) ?_) | (with_reducible refine stop_store (t := 24) ?_) | (with_reducible refine stop_load (t := 48) ?_) | (with_reducible refine stop_store (t := 48) ?_) | (with_reducible refine stop_build (t := 30) ?_) | (with_reducible refine stop_bs (t := 59) ?_) | (with_reducible refine stop_app ?_))
      obtain ⟨w2, rfl⟩ : ∃ u, u = wr := ⟨_, rfl⟩
      have VA := VR
      have HA : Hid (Made 0 xs) := Lib.hid HM.out.1
      replace BW := Lib.hid (Ex.trans BW.out BX.out)
      replace HT := Lib.hid (HT.out.ext BX.out)
      replace VA := Lib.hid (VA.out.less (show w.heap.size ≤ w1.heap.size from HS1.out))
      clear VR HM BX
      go_loopw [7, 9] (fun v i wr => ∃ (k : Nat) (ys : List Vt), k ≤ 4 ∧ k ≤ n2 ∧ i = .int .i64 k ∧ Hid (VRow wr w2.heap.size v ys) ∧ Hid (Made 1 ys ∧ ys.length = k) ∧ Hid (Ex w2 wr)) (fun _ i _ => 4 - (intOf i).toNat)
      case atStart => exact ⟨0, [], by omega, by omega, rfl, Lib.hid (VRow.nil _ _), Lib.hid ⟨Made.nil _, rfl⟩, Lib.hid (Ex.refl _)⟩
      case round =>
        obtain ⟨k, ys, hk4, hk, rfl, VR, HM, BX⟩ := hrel
        by_cases hlt : k < 4
        · have q0 : (0 : Int) ≤ (k : Int) := by omega
          have q1 : (k : Int) < (n2 : Int) := by omega
          have q2 : (k : Int) < 4 := by omega
          obtain ⟨x, hx⟩ : ∃ x, l2[k]? = some x := ⟨_, List.getElem?_eq_getElem (by rw [← HN2.out]; omega)⟩
          obtain ⟨ab, o, rfl, hab2, hra⟩ := (HI2.out.ext (Ex.trans BW.out BX.out)).read (by rw [← HN2.out]; omega)
          have XR := Lib.hid (hra k x hx)
          have XV := Lib.hid ((HI2.out.ins k x hx).ext (Ex.trans BW.out BX.out))
          clear hra hab2 hx
          go_wp2_with (first | (with_reducible refine stop_load (t := 30) ?_) | (with_reducible refine stop_store (t := 30) ?_) | (with_reducible refine stop_load (t := 24) ?_) | (with_reducible refine stop_store (t := 24) ?_) | (with_reducible refine stop_load (t := 48) ?_) | (with_reducible refine stop_store (t := 48) ?_) | (with_reducible refine stop_build (t := 30) ?_) | (with_reducible refine stop_bs (t := 59) ?_) | (with_reducible refine stop_app ?_))
          (with_reducible refine ⟨?_⟩); (with_reducible refine at_any ?_ ?_); (focus go_simp); refine fun K0 hK => ld_kv _ ab (o + k * 8) x rfl rfl XR.out (hK _ _ ?_)
          clear hK
          have hu : (2 * (k : Int) + 1) = ((UInt8.ofNat (2 * k + 1)).toNat : Int) := by
            rcases (show k = 0 ∨ k = 1 ∨ k = 2 ∨ k = 3 by omega) with rfl | rfl | rfl | rfl <;> rfl
          have HU := Lib.hid hu
          clear hu
          go_wp2_with (first | (with_reducible refine stop_load (t := 30) ?_) | (with_reducible refine stop_store (t := 30) ?_) | (with_reducible refine stop_load (t := 24) ?_) | (with_reducible refine stop_store (t := 24) ?_) | (with_reducible refine stop_load (t := 48) ?_) | (with_reducible refine stop_store (t := 48) ?_) | (with_reducible refine stop_build (t := 30) ?_) | (with_reducible refine stop_bs (t := 59) ?_) | (with_reducible refine stop_app ?_))
          rw [HU.out]
          refine (kv_any x [UInt8.ofNat (2 * k + 1), 0, 0, 0] rfl wr XV.out).mono ?_
          rintro e w3 ⟨z, rfl, hzn, hzi, hzr, x3⟩
          have HZ := Lib.hid hzn
          have HZI := Lib.hid (And.intro hzr hzi)
          replace BX := Lib.hid (Ex.trans BX.out x3)
          replace VR := Lib.hid (VR.out.ext x3)
          clear hzn hzi hzr x3
          go_wp2_with (first | (with_reducible refine stop_load (t := 30) ?_) | (with_reducible refine stop_store (t := 30) ?_) | (with_reducible refine stop_load (t := 24) ?_) | (with_reducible refine stop_store (t := 24) ?_) | (with_reducible refine stop_load (t := 48) ?_) | (with_reducible refine stop_store (t := 48) ?_) | (with_reducible refine stop_build (t := 30) ?_) | (with_reducible refine stop_bs (t := 59) ?_) | (with_reducible refine stop_app ?_))
          (with_reducible refine ⟨?_⟩); (with_reducible refine at_any ?_ ?_); (focus go_simp); refine fun K0 hK => wp_bsv _ z HZ.out.ok rfl rfl (hK _ _ ?_)
          clear hK
          have xa := Ex.alloc w3 (.cells z.C.toArray 30)
          have NB := Lib.hid (Bk.new (g := w3.heap.size) (w := w3) rfl 30 z.C.toArray)
          replace HZ := Lib.hid (HZ.out.ext xa)
          replace BX := Lib.hid (Ex.trans BX.out xa)
          replace VR := Lib.hid (VR.out.ext xa)
          generalize hw4 : w3.alloc (.cells z.C.toArray 30) = w4 at *
          obtain ⟨g2, hg⟩ : ∃ g, g = w3.heap.size := ⟨_, rfl⟩
          rw [← hg] at NB ⊢
          clear hw4 hg xa
          have MR := Lib.hid (Many.rd (n := 1) (sz := 42) ⟨g2, rfl, NB.out⟩ (Vt.len HZ.out.ok))
          go_wp2_with (first | (with_reducible refine stop_load (t := 30) ?_) | (with_reducible refine stop_store (t := 30) ?_) | (with_reducible refine stop_load (t := 24) ?_) | (with_reducible refine stop_store (t := 24) ?_) | (with_reducible refine stop_load (t := 48) ?_) | (with_reducible refine stop_store (t := 48) ?_) | (with_reducible refine stop_build (t := 30) ?_) | (with_reducible refine stop_bs (t := 59) ?_) | (with_reducible refine stop_app ?_))
          obtain ⟨adx, ex, nx, rx⟩ := MR.out
          cases ex
          have RX := Lib.hid rx
          clear rx nx MR
          (with_reducible refine ⟨?_⟩); (with_reducible refine at_any ?_ ?_); (focus go_simp); refine fun K0 hK => wp_rd _ _ 59 30 zeroVt.V 42 96 rfl Try.underlying59 Try.infoVt rfl (by decide) w2.heap.size ys.length _ _ rfl VR.out.row BX.out.sz' _ 1 1 _ rfl RX.out (Nat.le_refl _) (fun h => by cases h) (Vt.C_one z) (by have := HM.out.2; omega) (by have := HM.out.2; omega) (fun v5 w5 r1 r2 => hK _ _ ?_)
          clear hK
          replace BX := Lib.hid (show Ex w2 w5 from Below.trans (show Below w2.heap.size w2 _ from BX.out) r2.below)
          replace VR := Lib.hid (VR.out.app r2 r1 HZ.out)
          replace HM : Hid (Made 1 (ys ++ [z]) ∧ (ys ++ [z]).length = k + 1) := Lib.hid ⟨HM.out.1.app (by rw [HM.out.2]; omega) HZI.out.1 (by rw [HM.out.2]; exact HZI.out.2), by rw [List.length_append, HM.out.2]; rfl⟩
          clear r1 r2
          go_wp2_with (first | (with_reducible refine stop_load (t := 30) ?_) | (with_reducible refine stop_store (t := 30) ?_) | (with_reducible refine stop_load (t := 24) ?_) | (with_reducible refine stop_store (t := 24) ?_) | (with_reducible refine stop_load (t := 48) ?_) | (with_reducible refine stop_store (t := 48) ?_) | (with_reducible refine stop_build (t := 30) ?_) | (with_reducible refine stop_bs (t := 59) ?_) | (with_reducible refine stop_app ?_))
          (first | (refine ⟨?_, ?measure⟩; (repeat apply Exists.intro); refine ⟨?rel, rfl⟩) | refine ⟨?rel, ?measure⟩)
          case rel => exact ⟨k + 1, ys ++ [z], by omega, by omega, by go_num, VR, HM, BX⟩
          case measure => simp [intOf]; omega
        · obtain rfl : k = 4 := by omega
          have q1 : (4 : Int) < (n2 : Int) := by omega
          go_wp2_with (first | (with_reducible refine stop_load (t := 30) ?_) | (with_reducible refine stop_store (t := 30) ?_) | (with_reducible refine stop_load (t := 24) ?_) | (with_reducible refine stop_store (t := 24) ?_) | (with_reducible refine stop_load (t := 48) ?_) | (with_reducible refine stop_store (t := 48) ?_) | (with_reducible refine stop_build (t := 30) ?_) | (with_reducible refine stop_bs (t := 59) ?_) | (with_reducible refine stop_app ?_))
          obtain ⟨w3, rfl⟩ : ∃ u, u = wr := ⟨_, rfl⟩
          have F : Hid (FS w w3 D (.slice none 0 0) [] u6 xs u7 ys) := Lib.hid ⟨HT.out.ext BX.out, VA.out.ext BX.out, VR.out.less BW.out.sz', fun g hg he => by have h1 := (VR.out.row.lt g hg).1; have h2 := VA.out.own_lt he; omega, fun g hg he => by (cases he), HD.out, Ex.trans BW.out BX.out⟩
          have HB : Hid (Made 1 ys) := Lib.hid HM.out.1
          clear VA VR HM BX BW HT HS1
          obtain ⟨ada, capa, rfl, hia, hca⟩ := F.out.a.inn2
          obtain ⟨adb, capb, rfl, hib, hcb⟩ := F.out.b.inn2
          clear hia hib
          obtain ⟨n, hn⟩ : ∃ n, n = xs.length := ⟨_, rfl⟩
          obtain ⟨m, hm⟩ : ∃ m, m = ys.length := ⟨_, rfl⟩
          rw [← hn, ← hm] at F ⊢
          have HN := Lib.hid hn
          have HM := Lib.hid hm
          have hm4 : m ≤ 4 := by rw [hm]; exact HB.out.1
          have HCA := Lib.hid hca
          have HCB := Lib.hid hcb
          clear hn hm hca hcb
          go_wp2_with (first | (with_reducible refine stop_load (t := 30) ?_) | (with_reducible refine stop_store (t := 30) ?_) | (with_reducible refine stop_load (t := 24) ?_) | (with_reducible refine stop_store (t := 24) ?_) | (with_reducible refine stop_load (t := 48) ?_) | (with_reducible refine stop_store (t := 48) ?_) | (with_reducible refine stop_build (t := 30) ?_) | (with_reducible refine stop_bs (t := 59) ?_) | (with_reducible refine stop_app ?_))
          have CF := tfill_any D (.slice none 0 0) [] ada capa xs HCA.out w3 F.out.tb F.out.a.rd.1 F.out.a.vis
          rw [← HN.out] at CF
          refine CF.mono ?_
          rintro e w4 hfp
          obtain ⟨rfl, rv1, zs, ht, hct, hlt9, hk9⟩ := hfp.yes (HA.out.rising (by decide))
          replace F := Lib.hid (F.out.fill ht hlt9 hk9)
          have HCT : Hid (zs.map Vt.ct = xs.map Vt.ct) := Lib.hid hct
          clear CF hfp ht hct hlt9 hk9
          go_wp2_with (first | (with_reducible refine stop_load (t := 30) ?_) | (with_reducible refine stop_store (t := 30) ?_) | (with_reducible refine stop_load (t := 24) ?_) | (with_reducible refine stop_store (t := 24) ?_) | (with_reducible refine stop_load (t := 48) ?_) | (with_reducible refine stop_store (t := 48) ?_) | (with_reducible refine stop_build (t := 30) ?_) | (with_reducible refine stop_bs (t := 59) ?_) | (with_reducible refine stop_app ?_))
          refine (tall_any D rv1 zs w4 F.out.tb).mono ?_
          rintro e w5 ⟨v1, ts, rfl, hvr, hc2, x5⟩
          obtain ⟨adt, capt, rfl, hit, hct9⟩ := hvr.inn2
          replace F := Lib.hid (F.out.ext x5)
          have HTS := Lib.hid hvr
          have HC2 := Lib.hid hc2
          have HCT9 := Lib.hid hct9
          clear hvr hc2 x5 hit hct9
          go_wp2_with (first | (with_reducible refine stop_load (t := 30) ?_) | (with_reducible refine stop_store (t := 30) ?_) | (with_reducible refine stop_load (t := 24) ?_) | (with_reducible refine stop_store (t := 24) ?_) | (with_reducible refine stop_load (t := 48) ?_) | (with_reducible refine stop_store (t := 48) ?_) | (with_reducible refine stop_build (t := 30) ?_) | (with_reducible refine stop_bs (t := 59) ?_) | (with_reducible refine stop_app ?_))
          have CV := rvs_any adt ada capt capa ts xs HCT9.out HCA.out w5 HTS.out.rd.1 F.out.a.rd.1 HTS.out.vis F.out.a.vis
          rw [← HN.out, decide_eq_true (HC2.out.trans HCT.out)] at CV
          refine CV.mono ?_
          rintro e w5v ⟨rfl, x9⟩
          replace F := Lib.hid (F.out.ext x9)
          clear CV x9 HTS HC2 HCT9
          skip
          skip
          by_cases h2 : 1 < m
          · have h2i : (1 : Int) < (m : Int) := by omega
            obtain ⟨b0, hb0⟩ : ∃ y, ys[0]? = some y := ⟨_, List.getElem?_eq_getElem (by rw [← HM.out]; omega)⟩
            obtain ⟨b1, hb1⟩ : ∃ y, ys[1]? = some y := ⟨_, List.getElem?_eq_getElem (by rw [← HM.out]; omega)⟩
            have HY0 := Lib.hid hb0
            have HY1 := Lib.hid hb1
            clear hb0 hb1
            obtain ⟨gb, cb, C0, e0, hgb, -, -, -⟩ := F.out.b.store 0 (by rw [← HM.out]; omega)
            rw [← HM.out] at e0
            cases e0
            have HGB := Lib.hid hgb
            clear hgb C0
            go_wp2_with fail
            have Y0 := Lib.hid (F.out.b.ins 0 b0 (HY0.out))
            have Y1 := Lib.hid (F.out.b.ins 1 b1 (HY1.out))
            obtain ⟨a9, o9, e9, hlt9, hr9⟩ := F.out.b.rd.1.read (by have := (List.getElem?_eq_some_iff.1 (HY0.out)).1; omega)
            cases e9
            have R0 := Lib.hid (hr9 0 b0 (HY0.out))
            have R1 := Lib.hid (hr9 1 b1 (HY1.out))
            obtain ⟨g9, c9, C9, e9, _, hbk9, _, _⟩ := F.out.b.store 0 (by have := (List.getElem?_eq_some_iff.1 (HY0.out)).1; exact this)
            rw [← F.out.b.rd.2.2] at e9
            cases e9
            have HBK := Lib.hid hbk9
            have GLT := Lib.hid hlt9
            clear hr9 hlt9 hbk9
            obtain ⟨T, hT⟩ : ∃ T : List Sx, T = [.is (.slice (some ⟨gb, 0, none⟩) m capb), .is (.slice (some ⟨gb, 0, none⟩) m capb), .is (.slice (some ⟨gb, 0, none⟩) m capb), .is (.pointer (some ⟨gb, 42, none⟩)), .is (b1.V), .is (.slice (some ⟨gb, 0, none⟩) m capb), .is (.pointer (some ⟨gb, 0, none⟩)), .is (b0.V), .is (.pointer (some ⟨gb, 0, none⟩)), .of (fun _ w9 => VRow w9 w.heap.size (.slice (some ⟨gb, 0, none⟩) m capb) (ys.set 0 b1) ∧ Md gb w5v w9) (fun _ _ _ h k => ⟨h.1.ext k, h.2.trans (Ex.md k (Nat.le_trans (Nat.le_of_lt GLT.out) h.2.size))⟩), .is (.pointer (some ⟨gb, 42, none⟩)), .any] := ⟨_, rfl⟩
            have HFX : T.map Sx.fixed = [true, true, true, true, true, true, true, true, true, false, true, true] := by rw [hT]; rfl
            have hFst : ∀ wa wb, (fun w9 => VRow w9 w.heap.size (.slice (some ⟨gb, 0, none⟩) m capb) ((ys.set 0 b1).set 1 b0) ∧ Md gb w5v w9) wa → Ex wa wb → (fun w9 => VRow w9 w.heap.size (.slice (some ⟨gb, 0, none⟩) m capb) ((ys.set 0 b1).set 1 b0) ∧ Md gb w5v w9) wb := fun _ _ h k => ⟨h.1.ext k, h.2.trans (Ex.md k (Nat.le_trans (Nat.le_of_lt GLT.out) h.2.size))⟩
            refine wp_region_gen (JE w5v T ([none, none, none, none, none, none, none, none, none, some 11, none, none] : List (Option Nat)) ([(9, 4), (9, 7), (11, 9)] : List (Nat × Nat)) 9 11 (fun w9 => VRow w9 w.heap.size (.slice (some ⟨gb, 0, none⟩) m capb) ((ys.set 0 b1).set 1 b0) ∧ Md gb w5v w9)) (by kernel_rfl) (by kernel_rfl) (by kernel_rfl) (fitB_spec (by kernel_rfl)) (fun listed f h => JE.start listed f h) ?_ ?_
            · intro i o ho
              have hi : i < 12 := (Array.getElem?_eq_some_iff.1 ho).1
              have hi' : i = 0 ∨ i = 1 ∨ i = 2 ∨ i = 3 ∨ i = 4 ∨ i = 5 ∨ i = 6 ∨ i = 7 ∨ i = 8 ∨ i = 9 ∨ i = 10 ∨ i = 11 := by omega
              clear hi
              rcases hi' with rfl | rfl | rfl | rfl | rfl | rfl | rfl | rfl | rfl | rfl | rfl | rfl
              all_goals (simp only [List.getElem?_toArray, List.getElem?_cons_zero, List.getElem?_cons_succ, Option.some.injEq] at ho; subst ho; intro listed f a w2 hJ hsz hls hun hdep hout hlat)
              · rw [if_pos (by rfl)]
                intro K hK
                have q7 := hout 7 (outB_spec (by kernel_rfl))
                have hord : ∀ x ∈ ([(9, 4), (9, 7), (11, 9)] : List (Nat × Nat)), x.1 = 0 → listed.getD x.2 false = true := (by intro x hx he; simp only [List.mem_cons, List.not_mem_nil, or_false] at hx; rcases hx with rfl | rfl | rfl; all_goals first | (exact absurd he (by decide)) | assumption)
                refine wp_mv _ rfl (hK _ _ ?_)
                rw [show a.eval (.tmp 7) = .slice (some ⟨gb, 0, none⟩) m capb from q7]
                exact hJ.plain (by rw [hls]; decide) hFst (by decide) (Ex.refl _) (by rw [hT]; rfl) hord
              · rw [if_pos (by rfl)]
                intro K hK
                have q7 := hout 7 (outB_spec (by kernel_rfl))
                have hord : ∀ x ∈ ([(9, 4), (9, 7), (11, 9)] : List (Nat × Nat)), x.1 = 1 → listed.getD x.2 false = true := (by intro x hx he; simp only [List.mem_cons, List.not_mem_nil, or_false] at hx; rcases hx with rfl | rfl | rfl; all_goals first | (exact absurd he (by decide)) | assumption)
                refine wp_mv _ rfl (hK _ _ ?_)
                rw [show a.eval (.tmp 7) = .slice (some ⟨gb, 0, none⟩) m capb from q7]
                exact hJ.plain (by rw [hls]; decide) hFst (by decide) (Ex.refl _) (by rw [hT]; rfl) hord
              · rw [if_pos (by rfl)]
                intro K hK
                have q7 := hout 7 (outB_spec (by kernel_rfl))
                have hord : ∀ x ∈ ([(9, 4), (9, 7), (11, 9)] : List (Nat × Nat)), x.1 = 2 → listed.getD x.2 false = true := (by intro x hx he; simp only [List.mem_cons, List.not_mem_nil, or_false] at hx; rcases hx with rfl | rfl | rfl; all_goals first | (exact absurd he (by decide)) | assumption)
                refine wp_mv _ rfl (hK _ _ ?_)
                rw [show a.eval (.tmp 7) = .slice (some ⟨gb, 0, none⟩) m capb from q7]
                exact hJ.plain (by rw [hls]; decide) hFst (by decide) (Ex.refl _) (by rw [hT]; rfl) hord
              · rw [if_pos (by rfl)]
                intro K hK
                have dd77 := hdep ⟨2, .data⟩ (by simp) rfl
                have q77 := dd77.2 _ rfl _ rfl
                have h77 := hJ.vals 2 dd77.1 (fun c hc => by have hc : none = some c := hc; cases hc)
                rw [hT] at h77
                rw [show f 2 = .slice (some ⟨gb, 0, none⟩) m capb from h77] at q77
                clear h77
                clear dd77
                have hord : ∀ x ∈ ([(9, 4), (9, 7), (11, 9)] : List (Nat × Nat)), x.1 = 3 → listed.getD x.2 false = true := (by intro x hx he; simp only [List.mem_cons, List.not_mem_nil, or_false] at hx; rcases hx with rfl | rfl | rfl; all_goals first | (exact absurd he (by decide)) | assumption)
                have hm2 : (1 : Int) < (m : Int) := h2i
                have hm0 : (0 : Int) < (m : Int) := by omega
                have hmn : 0 < m := by omega
                have hmn1 : 1 < m := by omega
                rw [Array.getD_eq_getD_getElem?] at q77
                clear hsz hdep hout hlat
                go_simp
                exact hK _ _ (hJ.plain (by rw [hls]; decide) hFst (by decide) (Ex.refl _) (by rw [hT]; rfl) hord)
              · rw [if_pos (by rfl)]
                intro K hK
                have dd78 := hdep ⟨3, .data⟩ (by simp) rfl
                have q78 := dd78.2 _ rfl _ rfl
                have h78 := hJ.vals 3 dd78.1 (fun c hc => by have hc : none = some c := hc; cases hc)
                rw [hT] at h78
                rw [show f 3 = .pointer (some ⟨gb, 42, none⟩) from h78] at q78
                clear h78
                clear dd78
                have hord : ∀ x ∈ ([(9, 4), (9, 7), (11, 9)] : List (Nat × Nat)), x.1 = 4 → listed.getD x.2 false = true := (by intro x hx he; simp only [List.mem_cons, List.not_mem_nil, or_false] at hx; rcases hx with rfl | rfl | rfl; all_goals first | (exact absurd he (by decide)) | assumption)
                have hcut : listed.getD 9 false = false := by
                  cases hc : listed.getD 9 false with
                  | false => rfl
                  | true =>
                    have hc0 := hJ.ord (9, 4) (by simp) hc
                    exact absurd hc0 (by rw [hun]; decide)
                have hpre := hJ.pre hcut
                exact ld_vr (.tmp 78) gb 42 b1 Y1.out.ok rfl q78 (fun j u hu => (Below.cell (p := ⟨gb, 42 + j, none⟩) hpre GLT.out).trans (R1.out j u hu)) (hK _ _ (hJ.plain (by rw [hls]; decide) hFst (by decide) (Ex.refl _) (by rw [hT]; rfl) hord))
              · rw [if_pos (by rfl)]
                intro K hK
                have q7 := hout 7 (outB_spec (by kernel_rfl))
                have hord : ∀ x ∈ ([(9, 4), (9, 7), (11, 9)] : List (Nat × Nat)), x.1 = 5 → listed.getD x.2 false = true := (by intro x hx he; simp only [List.mem_cons, List.not_mem_nil, or_false] at hx; rcases hx with rfl | rfl | rfl; all_goals first | (exact absurd he (by decide)) | assumption)
                refine wp_mv _ rfl (hK _ _ ?_)
                rw [show a.eval (.tmp 7) = .slice (some ⟨gb, 0, none⟩) m capb from q7]
                exact hJ.plain (by rw [hls]; decide) hFst (by decide) (Ex.refl _) (by rw [hT]; rfl) hord
              · rw [if_pos (by rfl)]
                intro K hK
                have dd80 := hdep ⟨5, .data⟩ (by simp) rfl
                have q80 := dd80.2 _ rfl _ rfl
                have h80 := hJ.vals 5 dd80.1 (fun c hc => by have hc : none = some c := hc; cases hc)
                rw [hT] at h80
                rw [show f 5 = .slice (some ⟨gb, 0, none⟩) m capb from h80] at q80
                clear h80
                clear dd80
                have hord : ∀ x ∈ ([(9, 4), (9, 7), (11, 9)] : List (Nat × Nat)), x.1 = 6 → listed.getD x.2 false = true := (by intro x hx he; simp only [List.mem_cons, List.not_mem_nil, or_false] at hx; rcases hx with rfl | rfl | rfl; all_goals first | (exact absurd he (by decide)) | assumption)
                have hm2 : (1 : Int) < (m : Int) := h2i
                have hm0 : (0 : Int) < (m : Int) := by omega
                have hmn : 0 < m := by omega
                have hmn1 : 1 < m := by omega
                rw [Array.getD_eq_getD_getElem?] at q80
                clear hsz hdep hout hlat
                go_simp
                exact hK _ _ (hJ.plain (by rw [hls]; decide) hFst (by decide) (Ex.refl _) (by rw [hT]; rfl) hord)
              · rw [if_pos (by rfl)]
                intro K hK
                have dd81 := hdep ⟨6, .data⟩ (by simp) rfl
                have q81 := dd81.2 _ rfl _ rfl
                have h81 := hJ.vals 6 dd81.1 (fun c hc => by have hc : none = some c := hc; cases hc)
                rw [hT] at h81
                rw [show f 6 = .pointer (some ⟨gb, 0, none⟩) from h81] at q81
                clear h81
                clear dd81
                have hord : ∀ x ∈ ([(9, 4), (9, 7), (11, 9)] : List (Nat × Nat)), x.1 = 7 → listed.getD x.2 false = true := (by intro x hx he; simp only [List.mem_cons, List.not_mem_nil, or_false] at hx; rcases hx with rfl | rfl | rfl; all_goals first | (exact absurd he (by decide)) | assumption)
                have hcut : listed.getD 9 false = false := by
                  cases hc : listed.getD 9 false with
                  | false => rfl
                  | true =>
                    have hc0 := hJ.ord (9, 7) (by simp) hc
                    exact absurd hc0 (by rw [hun]; decide)
                have hpre := hJ.pre hcut
                exact ld_vr (.tmp 81) gb 0 b0 Y0.out.ok rfl q81 (fun j u hu => (Below.cell (p := ⟨gb, 0 + j, none⟩) hpre GLT.out).trans (R0.out j u hu)) (hK _ _ (hJ.plain (by rw [hls]; decide) hFst (by decide) (Ex.refl _) (by rw [hT]; rfl) hord))
              · rw [if_pos (by rfl)]
                intro K hK
                have dd75 := hdep ⟨0, .data⟩ (by simp) rfl
                have q75 := dd75.2 _ rfl _ rfl
                have h75 := hJ.vals 0 dd75.1 (fun c hc => by have hc : none = some c := hc; cases hc)
                rw [hT] at h75
                rw [show f 0 = .slice (some ⟨gb, 0, none⟩) m capb from h75] at q75
                clear h75
                clear dd75
                have hord : ∀ x ∈ ([(9, 4), (9, 7), (11, 9)] : List (Nat × Nat)), x.1 = 8 → listed.getD x.2 false = true := (by intro x hx he; simp only [List.mem_cons, List.not_mem_nil, or_false] at hx; rcases hx with rfl | rfl | rfl; all_goals first | (exact absurd he (by decide)) | assumption)
                have hm2 : (1 : Int) < (m : Int) := h2i
                have hm0 : (0 : Int) < (m : Int) := by omega
                have hmn : 0 < m := by omega
                have hmn1 : 1 < m := by omega
                rw [Array.getD_eq_getD_getElem?] at q75
                clear hsz hdep hout hlat
                go_simp
                exact hK _ _ (hJ.plain (by rw [hls]; decide) hFst (by decide) (Ex.refl _) (by rw [hT]; rfl) hord)
              · rw [if_pos (by rfl)]
                intro K hK
                have dd83 := hdep ⟨8, .data⟩ (by simp) rfl
                have q83 := dd83.2 _ rfl _ rfl
                have h83 := hJ.vals 8 dd83.1 (fun c hc => by have hc : none = some c := hc; cases hc)
                rw [hT] at h83
                rw [show f 8 = .pointer (some ⟨gb, 0, none⟩) from h83] at q83
                clear h83
                clear dd83
                have dd79 := hdep ⟨4, .data⟩ (by simp) rfl
                have q79 := dd79.2 _ rfl _ rfl
                have h79 := hJ.vals 4 dd79.1 (fun c hc => by have hc : none = some c := hc; cases hc)
                rw [hT] at h79
                rw [show f 4 = b1.V from h79] at q79
                clear h79
                clear dd79
                have hl4 := (hdep ⟨4, .data⟩ (by simp) rfl).1
                have hl7 := (hdep ⟨7, .phase⟩ (by simp) rfl).1
                have hord : ∀ x ∈ ([(9, 4), (9, 7), (11, 9)] : List (Nat × Nat)), x.1 = 9 → listed.getD x.2 false = true := (by intro x hx he; simp only [List.mem_cons, List.not_mem_nil, or_false] at hx; rcases hx with rfl | rfl | rfl; all_goals first | (exact absurd he (by decide)) | assumption)
                have hcut := hun
                have hpre := hJ.pre hcut
                have hc1 : ∀ j, j ≠ 9 → ([true, true, true, true, true, true, true, true, true, false, true, true] : List Bool).getD j true = false → listed.getD j false = true → ∃ c, (([none, none, none, none, none, none, none, none, none, some 11, none, none] : List (Option Nat))).getD j none = some c ∧ (c = 9 ∨ listed.getD c false = true) := by
                  intro j hj hfj hl
                  have hm : j = 9 := by
                    rcases Nat.lt_or_ge j 12 with h | h
                    · have hk : j = 0 ∨ j = 1 ∨ j = 2 ∨ j = 3 ∨ j = 4 ∨ j = 5 ∨ j = 6 ∨ j = 7 ∨ j = 8 ∨ j = 9 ∨ j = 10 ∨ j = 11 := by omega
                      rcases hk with rfl | rfl | rfl | rfl | rfl | rfl | rfl | rfl | rfl | rfl | rfl | rfl <;> first | (exact absurd hfj (by decide)) | simp
                    · rw [List.getD_eq_getElem?_getD, List.getElem?_eq_none (by simpa using h)] at hfj; cases hfj
                  rcases hm with rfl
                  · exact absurd rfl hj
                have hl11 : (listed.setIfInBounds 9 true).getD 11 false = true → False := fun hl => by
                  rw [bit_set (by decide)] at hl
                  have := hJ.ord (11, 9) (by simp) hl
                  rw [hun] at this; cases this
                obtain ⟨g9, c9, C9, e9, _, hb9, hl9, hs9⟩ := (F.out.b.ext hpre).store 0 (by have := (List.getElem?_eq_some_iff.1 (HY0.out)).1; exact this)
                rw [← F.out.b.rd.2.2] at e9
                cases e9
                refine wp_stp b1.C _ _ gb 0 rfl q83 q79 hb9 (by rw [Vt.len Y1.out.ok]; omega) (by rw [Try.sizeVt, Vt.len Y1.out.ok]) b1.ones (fun w5 hd ho => ?_)
                exact hK _ _ (hJ.mod (by rw [hls]; decide) HFX (by rw [hT]; exact ⟨hs9 b1 (Y1.out.ext hpre) w5 hd ho, (Ex.md hpre (Nat.le_of_lt GLT.out)).trans ho.md⟩) hc1 (Or.inl rfl) (fun hl => (hl11 hl).elim) hord)
              · rw [if_pos (by rfl)]
                intro K hK
                have dd76 := hdep ⟨1, .data⟩ (by simp) rfl
                have q76 := dd76.2 _ rfl _ rfl
                have h76 := hJ.vals 1 dd76.1 (fun c hc => by have hc : none = some c := hc; cases hc)
                rw [hT] at h76
                rw [show f 1 = .slice (some ⟨gb, 0, none⟩) m capb from h76] at q76
                clear h76
                clear dd76
                have hord : ∀ x ∈ ([(9, 4), (9, 7), (11, 9)] : List (Nat × Nat)), x.1 = 10 → listed.getD x.2 false = true := (by intro x hx he; simp only [List.mem_cons, List.not_mem_nil, or_false] at hx; rcases hx with rfl | rfl | rfl; all_goals first | (exact absurd he (by decide)) | assumption)
                have hm2 : (1 : Int) < (m : Int) := h2i
                have hm0 : (0 : Int) < (m : Int) := by omega
                have hmn : 0 < m := by omega
                have hmn1 : 1 < m := by omega
                rw [Array.getD_eq_getD_getElem?] at q76
                clear hsz hdep hout hlat
                go_simp
                exact hK _ _ (hJ.plain (by rw [hls]; decide) hFst (by decide) (Ex.refl _) (by rw [hT]; rfl) hord)
              · rw [if_pos (by rfl)]
                intro K hK
                have dd84 := hdep ⟨10, .data⟩ (by simp) rfl
                have q84 := dd84.2 _ rfl _ rfl
                have h84 := hJ.vals 10 dd84.1 (fun c hc => by have hc : none = some c := hc; cases hc)
                rw [hT] at h84
                rw [show f 10 = .pointer (some ⟨gb, 42, none⟩) from h84] at q84
                clear h84
                clear dd84
                have dd82 := hdep ⟨7, .data⟩ (by simp) rfl
                have q82 := dd82.2 _ rfl _ rfl
                have h82 := hJ.vals 7 dd82.1 (fun c hc => by have hc : none = some c := hc; cases hc)
                rw [hT] at h82
                rw [show f 7 = b0.V from h82] at q82
                clear h82
                clear dd82
                have hl9 := (hdep ⟨9, .chain⟩ (by simp) rfl).1
                have hord : ∀ x ∈ ([(9, 4), (9, 7), (11, 9)] : List (Nat × Nat)), x.1 = 11 → listed.getD x.2 false = true := (by intro x hx he; simp only [List.mem_cons, List.not_mem_nil, or_false] at hx; rcases hx with rfl | rfl | rfl; all_goals first | (exact absurd he (by decide)) | assumption)
                have hc1 : ∀ j, j ≠ 11 → ([true, true, true, true, true, true, true, true, true, false, true, true] : List Bool).getD j true = false → listed.getD j false = true → ∃ c, (([none, none, none, none, none, none, none, none, none, some 11, none, none] : List (Option Nat))).getD j none = some c ∧ (c = 11 ∨ listed.getD c false = true) := by
                  intro j hj hfj hl
                  have hm : j = 9 := by
                    rcases Nat.lt_or_ge j 12 with h | h
                    · have hk : j = 0 ∨ j = 1 ∨ j = 2 ∨ j = 3 ∨ j = 4 ∨ j = 5 ∨ j = 6 ∨ j = 7 ∨ j = 8 ∨ j = 9 ∨ j = 10 ∨ j = 11 := by omega
                      rcases hk with rfl | rfl | rfl | rfl | rfl | rfl | rfl | rfl | rfl | rfl | rfl | rfl <;> first | (exact absurd hfj (by decide)) | simp
                    · rw [List.getD_eq_getElem?_getD, List.getElem?_eq_none (by simpa using h)] at hfj; cases hfj
                  rcases hm with rfl
                  · exact ⟨11, rfl, Or.inl rfl⟩
                have d9 := hdep ⟨9, .chain⟩ (by simp) rfl
                have h9 := hJ.vals 9 d9.1 (fun c hc => by have hc : some 11 = some c := hc; cases hc; exact hun)
                rw [hT] at h9
                have h9 : (fun _ w9 => VRow w9 w.heap.size (.slice (some ⟨gb, 0, none⟩) m capb) (ys.set 0 b1) ∧ Md gb w5v w9) (f 9) w2 := h9
                obtain ⟨g9, c9, C9, e9, _, hb9, hl9, hs9⟩ := h9.1.store 1 (by have := (List.getElem?_eq_some_iff.1 (HY1.out)).1; rw [List.length_set]; exact this)
                rw [← h9.1.rd.2.2] at e9
                cases e9
                refine wp_stp b0.C _ _ gb 42 rfl q84 q82 hb9 (by rw [Vt.len Y0.out.ok]; omega) (by rw [Try.sizeVt, Vt.len Y0.out.ok]) b0.ones (fun w5 hd ho => ?_)
                exact hK _ _ (hJ.mod (by rw [hls]; decide) HFX (by rw [hT]; exact trivial) hc1 (Or.inr (hdep ⟨9, .chain⟩ (by simp) rfl).1) (fun _ => ⟨hs9 b0 (Y0.out.kt (Kt.md h9.2 (Nat.zero_le _) HBK.out (List.mem_singleton.2 rfl)) (by decide)) w5 hd ho, h9.2.trans ho.md⟩) hord)
            · intro listed f w2 hall hJ
              have xf : (fun w9 => VRow w9 w.heap.size (.slice (some ⟨gb, 0, none⟩) m capb) ((ys.set 0 b1).set 1 b0) ∧ Md gb w5v w9) w2 := hJ.fin (hall 11 (by simp))
              simp only [putAll, Act.put, List.setIfInBounds_toArray, List.set_cons_zero, List.set_cons_succ, Nat.zero_add, Nat.reduceAdd]
              clear hJ hall hT HFX hFst
              generalize f 0 = y0
              generalize f 1 = y1
              generalize f 2 = y2
              generalize f 3 = y3
              generalize f 4 = y4
              generalize f 5 = y5
              generalize f 6 = y6
              generalize f 7 = y7
              generalize f 8 = y8
              generalize f 10 = y10
              replace F := Lib.hid (F.out.setb rfl HBK.out xf.2 xf.1)
              clear xf Y0 Y1 R0 R1 HBK GLT
              obtain ⟨w6, rfl⟩ : ∃ u, u = w2 := ⟨_, rfl⟩
              obtain ⟨ys2, hys2⟩ : ∃ l, l = (ys.set 0 b1).set 1 b0 := ⟨_, rfl⟩
              rw [← hys2] at F
              have HYS := Lib.hid hys2
              have HNR : Hid (¬ Rising ys2) := Lib.hid (by rw [hys2]; exact swapped_not HB.out (by decide) HY0.out HY1.out)
              have HM2 : Hid (m = ys2.length) := Lib.hid (by rw [hys2, List.length_set, List.length_set]; exact HM.out)
              have HZ0 : Hid (ys2[0]? = some b1) := Lib.hid (by rw [hys2, List.getElem?_set_ne (by decide), List.getElem?_set_self (by rw [← HM.out]; omega)])
              have HZ1 : Hid (ys2[1]? = some b0) := Lib.hid (by rw [hys2, List.getElem?_set_self (by rw [List.length_set, ← HM.out]; omega)])
              clear hys2
              go_wp2_with (first | (with_reducible refine stop_load (t := 30) ?_) | (with_reducible refine stop_store (t := 30) ?_) | (with_reducible refine stop_load (t := 24) ?_) | (with_reducible refine stop_store (t := 24) ?_) | (with_reducible refine stop_load (t := 48) ?_) | (with_reducible refine stop_store (t := 48) ?_) | (with_reducible refine stop_build (t := 30) ?_) | (with_reducible refine stop_bs (t := 59) ?_) | (with_reducible refine stop_app ?_))
              have CF := tfill_any D rv1 zs (some ⟨gb, 0, none⟩) capb ys2 HCB.out w6 F.out.tb F.out.b.rd.1 F.out.b.vis
              rw [← HM2.out] at CF
              refine CF.mono ?_
              rintro e w7 hfp
              obtain ⟨rfl, x7⟩ := hfp.no HNR.out
              replace F := Lib.hid (F.out.ext x7)
              clear CF hfp x7
              go_wp2_with (first | (with_reducible refine stop_load (t := 30) ?_) | (with_reducible refine stop_store (t := 30) ?_) | (with_reducible refine stop_load (t := 24) ?_) | (with_reducible refine stop_store (t := 24) ?_) | (with_reducible refine stop_load (t := 48) ?_) | (with_reducible refine stop_store (t := 48) ?_) | (with_reducible refine stop_build (t := 30) ?_) | (with_reducible refine stop_bs (t := 59) ?_) | (with_reducible refine stop_app ?_))
              refine (tall_any D rv1 zs w7 F.out.tb).mono ?_
              rintro e w8 ⟨v2, ts, rfl, hvr, hc2, x5⟩
              obtain ⟨adt, capt, rfl, hit, hct9⟩ := hvr.inn2
              replace F := Lib.hid (F.out.ext x5)
              have HTS := Lib.hid hvr
              have HC2 := Lib.hid hc2
              have HCT9 := Lib.hid hct9
              clear hvr hc2 x5 hit hct9
              go_wp2_with (first | (with_reducible refine stop_load (t := 30) ?_) | (with_reducible refine stop_store (t := 30) ?_) | (with_reducible refine stop_load (t := 24) ?_) | (with_reducible refine stop_store (t := 24) ?_) | (with_reducible refine stop_load (t := 48) ?_) | (with_reducible refine stop_store (t := 48) ?_) | (with_reducible refine stop_build (t := 30) ?_) | (with_reducible refine stop_bs (t := 59) ?_) | (with_reducible refine stop_app ?_))
              have CV := rvs_any adt ada capt capa ts xs HCT9.out HCA.out w8 HTS.out.rd.1 F.out.a.rd.1 HTS.out.vis F.out.a.vis
              rw [← HN.out, decide_eq_true (HC2.out.trans HCT.out)] at CV
              refine CV.mono ?_
              rintro e w8v ⟨rfl, x9⟩
              replace F := Lib.hid (F.out.ext x9)
              clear CV x9 HTS HC2 HCT9
              skip
              skip
              go_wp2_with (first | (with_reducible refine stop_load (t := 30) ?_) | (with_reducible refine stop_store (t := 30) ?_) | (with_reducible refine stop_load (t := 24) ?_) | (with_reducible refine stop_store (t := 24) ?_) | (with_reducible refine stop_load (t := 48) ?_) | (with_reducible refine stop_store (t := 48) ?_) | (with_reducible refine stop_build (t := 30) ?_) | (with_reducible refine stop_bs (t := 59) ?_) | (with_reducible refine stop_app ?_))
              have Y0 := Lib.hid (F.out.b.ins 0 b1 (HZ0.out))
              have Y1 := Lib.hid (F.out.b.ins 1 b0 (HZ1.out))
              obtain ⟨a9, o9, e9, hlt9, hr9⟩ := F.out.b.rd.1.read (by have := (List.getElem?_eq_some_iff.1 (HZ0.out)).1; omega)
              cases e9
              have R0 := Lib.hid (hr9 0 b1 (HZ0.out))
              have R1 := Lib.hid (hr9 1 b0 (HZ1.out))
              obtain ⟨g9, c9, C9, e9, _, hbk9, _, _⟩ := F.out.b.store 0 (by have := (List.getElem?_eq_some_iff.1 (HZ0.out)).1; exact this)
              rw [← F.out.b.rd.2.2] at e9
              cases e9
              have HBK := Lib.hid hbk9
              have GLT := Lib.hid hlt9
              clear hr9 hlt9 hbk9
              obtain ⟨T, hT⟩ : ∃ T : List Sx, T = [.is (.slice (some ⟨gb, 0, none⟩) m capb), .is (.slice (some ⟨gb, 0, none⟩) m capb), .is (.slice (some ⟨gb, 0, none⟩) m capb), .is (.pointer (some ⟨gb, 42, none⟩)), .is (b0.V), .is (.slice (some ⟨gb, 0, none⟩) m capb), .is (.pointer (some ⟨gb, 0, none⟩)), .is (b1.V), .is (.pointer (some ⟨gb, 0, none⟩)), .of (fun _ w9 => VRow w9 w.heap.size (.slice (some ⟨gb, 0, none⟩) m capb) (ys2.set 0 b0) ∧ Md gb w8v w9) (fun _ _ _ h k => ⟨h.1.ext k, h.2.trans (Ex.md k (Nat.le_trans (Nat.le_of_lt GLT.out) h.2.size))⟩), .is (.pointer (some ⟨gb, 42, none⟩)), .any] := ⟨_, rfl⟩
              have HFX : T.map Sx.fixed = [true, true, true, true, true, true, true, true, true, false, true, true] := by rw [hT]; rfl
              have hFst : ∀ wa wb, (fun w9 => VRow w9 w.heap.size (.slice (some ⟨gb, 0, none⟩) m capb) ((ys2.set 0 b0).set 1 b1) ∧ Md gb w8v w9) wa → Ex wa wb → (fun w9 => VRow w9 w.heap.size (.slice (some ⟨gb, 0, none⟩) m capb) ((ys2.set 0 b0).set 1 b1) ∧ Md gb w8v w9) wb := fun _ _ h k => ⟨h.1.ext k, h.2.trans (Ex.md k (Nat.le_trans (Nat.le_of_lt GLT.out) h.2.size))⟩
              refine wp_region_gen (JE w8v T ([none, none, none, none, none, none, none, none, none, some 11, none, none] : List (Option Nat)) ([(9, 4), (9, 7), (11, 9)] : List (Nat × Nat)) 9 11 (fun w9 => VRow w9 w.heap.size (.slice (some ⟨gb, 0, none⟩) m capb) ((ys2.set 0 b0).set 1 b1) ∧ Md gb w8v w9)) (by kernel_rfl) (by kernel_rfl) (by kernel_rfl) (fitB_spec (by kernel_rfl)) (fun listed f h => JE.start listed f h) ?_ ?_
              · intro i o ho
                have hi : i < 12 := (Array.getElem?_eq_some_iff.1 ho).1
                have hi' : i = 0 ∨ i = 1 ∨ i = 2 ∨ i = 3 ∨ i = 4 ∨ i = 5 ∨ i = 6 ∨ i = 7 ∨ i = 8 ∨ i = 9 ∨ i = 10 ∨ i = 11 := by omega
                clear hi
                rcases hi' with rfl | rfl | rfl | rfl | rfl | rfl | rfl | rfl | rfl | rfl | rfl | rfl
                all_goals (simp only [List.getElem?_toArray, List.getElem?_cons_zero, List.getElem?_cons_succ, Option.some.injEq] at ho; subst ho; intro listed f a w2 hJ hsz hls hun hdep hout hlat)
                · rw [if_pos (by rfl)]
                  intro K hK
                  have q7 := hout 7 (outB_spec (by kernel_rfl))
                  have hord : ∀ x ∈ ([(9, 4), (9, 7), (11, 9)] : List (Nat × Nat)), x.1 = 0 → listed.getD x.2 false = true := (by intro x hx he; simp only [List.mem_cons, List.not_mem_nil, or_false] at hx; rcases hx with rfl | rfl | rfl; all_goals first | (exact absurd he (by decide)) | assumption)
                  refine wp_mv _ rfl (hK _ _ ?_)
                  rw [show a.eval (.tmp 7) = .slice (some ⟨gb, 0, none⟩) m capb from q7]
                  exact hJ.plain (by rw [hls]; decide) hFst (by decide) (Ex.refl _) (by rw [hT]; rfl) hord
                · rw [if_pos (by rfl)]
                  intro K hK
                  have q7 := hout 7 (outB_spec (by kernel_rfl))
                  have hord : ∀ x ∈ ([(9, 4), (9, 7), (11, 9)] : List (Nat × Nat)), x.1 = 1 → listed.getD x.2 false = true := (by intro x hx he; simp only [List.mem_cons, List.not_mem_nil, or_false] at hx; rcases hx with rfl | rfl | rfl; all_goals first | (exact absurd he (by decide)) | assumption)
                  refine wp_mv _ rfl (hK _ _ ?_)
                  rw [show a.eval (.tmp 7) = .slice (some ⟨gb, 0, none⟩) m capb from q7]
                  exact hJ.plain (by rw [hls]; decide) hFst (by decide) (Ex.refl _) (by rw [hT]; rfl) hord
                · rw [if_pos (by rfl)]
                  intro K hK
                  have q7 := hout 7 (outB_spec (by kernel_rfl))
                  have hord : ∀ x ∈ ([(9, 4), (9, 7), (11, 9)] : List (Nat × Nat)), x.1 = 2 → listed.getD x.2 false = true := (by intro x hx he; simp only [List.mem_cons, List.not_mem_nil, or_false] at hx; rcases hx with rfl | rfl | rfl; all_goals first | (exact absurd he (by decide)) | assumption)
                  refine wp_mv _ rfl (hK _ _ ?_)
                  rw [show a.eval (.tmp 7) = .slice (some ⟨gb, 0, none⟩) m capb from q7]
                  exact hJ.plain (by rw [hls]; decide) hFst (by decide) (Ex.refl _) (by rw [hT]; rfl) hord
                · rw [if_pos (by rfl)]
                  intro K hK
                  have dd98 := hdep ⟨2, .data⟩ (by simp) rfl
                  have q98 := dd98.2 _ rfl _ rfl
                  have h98 := hJ.vals 2 dd98.1 (fun c hc => by have hc : none = some c := hc; cases hc)
                  rw [hT] at h98
                  rw [show f 2 = .slice (some ⟨gb, 0, none⟩) m capb from h98] at q98
                  clear h98
                  clear dd98
                  have hord : ∀ x ∈ ([(9, 4), (9, 7), (11, 9)] : List (Nat × Nat)), x.1 = 3 → listed.getD x.2 false = true := (by intro x hx he; simp only [List.mem_cons, List.not_mem_nil, or_false] at hx; rcases hx with rfl | rfl | rfl; all_goals first | (exact absurd he (by decide)) | assumption)
                  have hm2 : (1 : Int) < (m : Int) := h2i
                  have hm0 : (0 : Int) < (m : Int) := by omega
                  have hmn : 0 < m := by omega
                  have hmn1 : 1 < m := by omega
                  rw [Array.getD_eq_getD_getElem?] at q98
                  clear hsz hdep hout hlat
                  go_simp
                  exact hK _ _ (hJ.plain (by rw [hls]; decide) hFst (by decide) (Ex.refl _) (by rw [hT]; rfl) hord)
                · rw [if_pos (by rfl)]
                  intro K hK
                  have dd99 := hdep ⟨3, .data⟩ (by simp) rfl
                  have q99 := dd99.2 _ rfl _ rfl
                  have h99 := hJ.vals 3 dd99.1 (fun c hc => by have hc : none = some c := hc; cases hc)
                  rw [hT] at h99
                  rw [show f 3 = .pointer (some ⟨gb, 42, none⟩) from h99] at q99
                  clear h99
                  clear dd99
                  have hord : ∀ x ∈ ([(9, 4), (9, 7), (11, 9)] : List (Nat × Nat)), x.1 = 4 → listed.getD x.2 false = true := (by intro x hx he; simp only [List.mem_cons, List.not_mem_nil, or_false] at hx; rcases hx with rfl | rfl | rfl; all_goals first | (exact absurd he (by decide)) | assumption)
                  have hcut : listed.getD 9 false = false := by
                    cases hc : listed.getD 9 false with
                    | false => rfl
                    | true =>
                      have hc0 := hJ.ord (9, 4) (by simp) hc
                      exact absurd hc0 (by rw [hun]; decide)
                  have hpre := hJ.pre hcut
                  exact ld_vr (.tmp 99) gb 42 b0 Y1.out.ok rfl q99 (fun j u hu => (Below.cell (p := ⟨gb, 42 + j, none⟩) hpre GLT.out).trans (R1.out j u hu)) (hK _ _ (hJ.plain (by rw [hls]; decide) hFst (by decide) (Ex.refl _) (by rw [hT]; rfl) hord))
                · rw [if_pos (by rfl)]
                  intro K hK
                  have q7 := hout 7 (outB_spec (by kernel_rfl))
                  have hord : ∀ x ∈ ([(9, 4), (9, 7), (11, 9)] : List (Nat × Nat)), x.1 = 5 → listed.getD x.2 false = true := (by intro x hx he; simp only [List.mem_cons, List.not_mem_nil, or_false] at hx; rcases hx with rfl | rfl | rfl; all_goals first | (exact absurd he (by decide)) | assumption)
                  refine wp_mv _ rfl (hK _ _ ?_)
                  rw [show a.eval (.tmp 7) = .slice (some ⟨gb, 0, none⟩) m capb from q7]
                  exact hJ.plain (by rw [hls]; decide) hFst (by decide) (Ex.refl _) (by rw [hT]; rfl) hord
                · rw [if_pos (by rfl)]
                  intro K hK
                  have dd101 := hdep ⟨5, .data⟩ (by simp) rfl
                  have q101 := dd101.2 _ rfl _ rfl
                  have h101 := hJ.vals 5 dd101.1 (fun c hc => by have hc : none = some c := hc; cases hc)
                  rw [hT] at h101
                  rw [show f 5 = .slice (some ⟨gb, 0, none⟩) m capb from h101] at q101
                  clear h101
                  clear dd101
                  have hord : ∀ x ∈ ([(9, 4), (9, 7), (11, 9)] : List (Nat × Nat)), x.1 = 6 → listed.getD x.2 false = true := (by intro x hx he; simp only [List.mem_cons, List.not_mem_nil, or_false] at hx; rcases hx with rfl | rfl | rfl; all_goals first | (exact absurd he (by decide)) | assumption)
                  have hm2 : (1 : Int) < (m : Int) := h2i
                  have hm0 : (0 : Int) < (m : Int) := by omega
                  have hmn : 0 < m := by omega
                  have hmn1 : 1 < m := by omega
                  rw [Array.getD_eq_getD_getElem?] at q101
                  clear hsz hdep hout hlat
                  go_simp
                  exact hK _ _ (hJ.plain (by rw [hls]; decide) hFst (by decide) (Ex.refl _) (by rw [hT]; rfl) hord)
                · rw [if_pos (by rfl)]
                  intro K hK
                  have dd102 := hdep ⟨6, .data⟩ (by simp) rfl
                  have q102 := dd102.2 _ rfl _ rfl
                  have h102 := hJ.vals 6 dd102.1 (fun c hc => by have hc : none = some c := hc; cases hc)
                  rw [hT] at h102
                  rw [show f 6 = .pointer (some ⟨gb, 0, none⟩) from h102] at q102
                  clear h102
                  clear dd102
                  have hord : ∀ x ∈ ([(9, 4), (9, 7), (11, 9)] : List (Nat × Nat)), x.1 = 7 → listed.getD x.2 false = true := (by intro x hx he; simp only [List.mem_cons, List.not_mem_nil, or_false] at hx; rcases hx with rfl | rfl | rfl; all_goals first | (exact absurd he (by decide)) | assumption)
                  have hcut : listed.getD 9 false = false := by
                    cases hc : listed.getD 9 false with
                    | false => rfl
                    | true =>
                      have hc0 := hJ.ord (9, 7) (by simp) hc
                      exact absurd hc0 (by rw [hun]; decide)
                  have hpre := hJ.pre hcut
                  exact ld_vr (.tmp 102) gb 0 b1 Y0.out.ok rfl q102 (fun j u hu => (Below.cell (p := ⟨gb, 0 + j, none⟩) hpre GLT.out).trans (R0.out j u hu)) (hK _ _ (hJ.plain (by rw [hls]; decide) hFst (by decide) (Ex.refl _) (by rw [hT]; rfl) hord))
                · rw [if_pos (by rfl)]
                  intro K hK
                  have dd96 := hdep ⟨0, .data⟩ (by simp) rfl
                  have q96 := dd96.2 _ rfl _ rfl
                  have h96 := hJ.vals 0 dd96.1 (fun c hc => by have hc : none = some c := hc; cases hc)
                  rw [hT] at h96
                  rw [show f 0 = .slice (some ⟨gb, 0, none⟩) m capb from h96] at q96
                  clear h96
                  clear dd96
                  have hord : ∀ x ∈ ([(9, 4), (9, 7), (11, 9)] : List (Nat × Nat)), x.1 = 8 → listed.getD x.2 false = true := (by intro x hx he; simp only [List.mem_cons, List.not_mem_nil, or_false] at hx; rcases hx with rfl | rfl | rfl; all_goals first | (exact absurd he (by decide)) | assumption)
                  have hm2 : (1 : Int) < (m : Int) := h2i
                  have hm0 : (0 : Int) < (m : Int) := by omega
                  have hmn : 0 < m := by omega
                  have hmn1 : 1 < m := by omega
                  rw [Array.getD_eq_getD_getElem?] at q96
                  clear hsz hdep hout hlat
                  go_simp
                  exact hK _ _ (hJ.plain (by rw [hls]; decide) hFst (by decide) (Ex.refl _) (by rw [hT]; rfl) hord)
                · rw [if_pos (by rfl)]
                  intro K hK
                  have dd104 := hdep ⟨8, .data⟩ (by simp) rfl
                  have q104 := dd104.2 _ rfl _ rfl
                  have h104 := hJ.vals 8 dd104.1 (fun c hc => by have hc : none = some c := hc; cases hc)
                  rw [hT] at h104
                  rw [show f 8 = .pointer (some ⟨gb, 0, none⟩) from h104] at q104
                  clear h104
                  clear dd104
                  have dd100 := hdep ⟨4, .data⟩ (by simp) rfl
                  have q100 := dd100.2 _ rfl _ rfl
                  have h100 := hJ.vals 4 dd100.1 (fun c hc => by have hc : none = some c := hc; cases hc)
                  rw [hT] at h100
                  rw [show f 4 = b0.V from h100] at q100
                  clear h100
                  clear dd100
                  have hl4 := (hdep ⟨4, .data⟩ (by simp) rfl).1
                  have hl7 := (hdep ⟨7, .phase⟩ (by simp) rfl).1
                  have hord : ∀ x ∈ ([(9, 4), (9, 7), (11, 9)] : List (Nat × Nat)), x.1 = 9 → listed.getD x.2 false = true := (by intro x hx he; simp only [List.mem_cons, List.not_mem_nil, or_false] at hx; rcases hx with rfl | rfl | rfl; all_goals first | (exact absurd he (by decide)) | assumption)
                  have hcut := hun
                  have hpre := hJ.pre hcut
                  have hc1 : ∀ j, j ≠ 9 → ([true, true, true, true, true, true, true, true, true, false, true, true] : List Bool).getD j true = false → listed.getD j false = true → ∃ c, (([none, none, none, none, none, none, none, none, none, some 11, none, none] : List (Option Nat))).getD j none = some c ∧ (c = 9 ∨ listed.getD c false = true) := by
                    intro j hj hfj hl
                    have hm : j = 9 := by
                      rcases Nat.lt_or_ge j 12 with h | h
                      · have hk : j = 0 ∨ j = 1 ∨ j = 2 ∨ j = 3 ∨ j = 4 ∨ j = 5 ∨ j = 6 ∨ j = 7 ∨ j = 8 ∨ j = 9 ∨ j = 10 ∨ j = 11 := by omega
                        rcases hk with rfl | rfl | rfl | rfl | rfl | rfl | rfl | rfl | rfl | rfl | rfl | rfl <;> first | (exact absurd hfj (by decide)) | simp
                      · rw [List.getD_eq_getElem?_getD, List.getElem?_eq_none (by simpa using h)] at hfj; cases hfj
                    rcases hm with rfl
                    · exact absurd rfl hj
                  have hl11 : (listed.setIfInBounds 9 true).getD 11 false = true → False := fun hl => by
                    rw [bit_set (by decide)] at hl
                    have := hJ.ord (11, 9) (by simp) hl
                    rw [hun] at this; cases this
                  obtain ⟨g9, c9, C9, e9, _, hb9, hl9, hs9⟩ := (F.out.b.ext hpre).store 0 (by have := (List.getElem?_eq_some_iff.1 (HZ0.out)).1; exact this)
                  rw [← F.out.b.rd.2.2] at e9
                  cases e9
                  refine wp_stp b0.C _ _ gb 0 rfl q104 q100 hb9 (by rw [Vt.len Y1.out.ok]; omega) (by rw [Try.sizeVt, Vt.len Y1.out.ok]) b0.ones (fun w5 hd ho => ?_)
                  exact hK _ _ (hJ.mod (by rw [hls]; decide) HFX (by rw [hT]; exact ⟨hs9 b0 (Y1.out.ext hpre) w5 hd ho, (Ex.md hpre (Nat.le_of_lt GLT.out)).trans ho.md⟩) hc1 (Or.inl rfl) (fun hl => (hl11 hl).elim) hord)
                · rw [if_pos (by rfl)]
                  intro K hK
                  have dd97 := hdep ⟨1, .data⟩ (by simp) rfl
                  have q97 := dd97.2 _ rfl _ rfl
                  have h97 := hJ.vals 1 dd97.1 (fun c hc => by have hc : none = some c := hc; cases hc)
                  rw [hT] at h97
                  rw [show f 1 = .slice (some ⟨gb, 0, none⟩) m capb from h97] at q97
                  clear h97
                  clear dd97
                  have hord : ∀ x ∈ ([(9, 4), (9, 7), (11, 9)] : List (Nat × Nat)), x.1 = 10 → listed.getD x.2 false = true := (by intro x hx he; simp only [List.mem_cons, List.not_mem_nil, or_false] at hx; rcases hx with rfl | rfl | rfl; all_goals first | (exact absurd he (by decide)) | assumption)
                  have hm2 : (1 : Int) < (m : Int) := h2i
                  have hm0 : (0 : Int) < (m : Int) := by omega
                  have hmn : 0 < m := by omega
                  have hmn1 : 1 < m := by omega
                  rw [Array.getD_eq_getD_getElem?] at q97
                  clear hsz hdep hout hlat
                  go_simp
                  exact hK _ _ (hJ.plain (by rw [hls]; decide) hFst (by decide) (Ex.refl _) (by rw [hT]; rfl) hord)
                · rw [if_pos (by rfl)]
                  intro K hK
                  have dd105 := hdep ⟨10, .data⟩ (by simp) rfl
                  have q105 := dd105.2 _ rfl _ rfl
                  have h105 := hJ.vals 10 dd105.1 (fun c hc => by have hc : none = some c := hc; cases hc)
                  rw [hT] at h105
                  rw [show f 10 = .pointer (some ⟨gb, 42, none⟩) from h105] at q105
                  clear h105
                  clear dd105
                  have dd103 := hdep ⟨7, .data⟩ (by simp) rfl
                  have q103 := dd103.2 _ rfl _ rfl
                  have h103 := hJ.vals 7 dd103.1 (fun c hc => by have hc : none = some c := hc; cases hc)
                  rw [hT] at h103
                  rw [show f 7 = b1.V from h103] at q103
                  clear h103
                  clear dd103
                  have hl9 := (hdep ⟨9, .chain⟩ (by simp) rfl).1
                  have hord : ∀ x ∈ ([(9, 4), (9, 7), (11, 9)] : List (Nat × Nat)), x.1 = 11 → listed.getD x.2 false = true := (by intro x hx he; simp only [List.mem_cons, List.not_mem_nil, or_false] at hx; rcases hx with rfl | rfl | rfl; all_goals first | (exact absurd he (by decide)) | assumption)
                  have hc1 : ∀ j, j ≠ 11 → ([true, true, true, true, true, true, true, true, true, false, true, true] : List Bool).getD j true = false → listed.getD j false = true → ∃ c, (([none, none, none, none, none, none, none, none, none, some 11, none, none] : List (Option Nat))).getD j none = some c ∧ (c = 11 ∨ listed.getD c false = true) := by
                    intro j hj hfj hl
                    have hm : j = 9 := by
                      rcases Nat.lt_or_ge j 12 with h | h
                      · have hk : j = 0 ∨ j = 1 ∨ j = 2 ∨ j = 3 ∨ j = 4 ∨ j = 5 ∨ j = 6 ∨ j = 7 ∨ j = 8 ∨ j = 9 ∨ j = 10 ∨ j = 11 := by omega
                        rcases hk with rfl | rfl | rfl | rfl | rfl | rfl | rfl | rfl | rfl | rfl | rfl | rfl <;> first | (exact absurd hfj (by decide)) | simp
                      · rw [List.getD_eq_getElem?_getD, List.getElem?_eq_none (by simpa using h)] at hfj; cases hfj
                    rcases hm with rfl
                    · exact ⟨11, rfl, Or.inl rfl⟩
                  have d9 := hdep ⟨9, .chain⟩ (by simp) rfl
                  have h9 := hJ.vals 9 d9.1 (fun c hc => by have hc : some 11 = some c := hc; cases hc; exact hun)
                  rw [hT] at h9
                  have h9 : (fun _ w9 => VRow w9 w.heap.size (.slice (some ⟨gb, 0, none⟩) m capb) (ys2.set 0 b0) ∧ Md gb w8v w9) (f 9) w2 := h9
                  obtain ⟨g9, c9, C9, e9, _, hb9, hl9, hs9⟩ := h9.1.store 1 (by have := (List.getElem?_eq_some_iff.1 (HZ1.out)).1; rw [List.length_set]; exact this)
                  rw [← h9.1.rd.2.2] at e9
                  cases e9
                  refine wp_stp b1.C _ _ gb 42 rfl q105 q103 hb9 (by rw [Vt.len Y0.out.ok]; omega) (by rw [Try.sizeVt, Vt.len Y0.out.ok]) b1.ones (fun w5 hd ho => ?_)
                  exact hK _ _ (hJ.mod (by rw [hls]; decide) HFX (by rw [hT]; exact trivial) hc1 (Or.inr (hdep ⟨9, .chain⟩ (by simp) rfl).1) (fun _ => ⟨hs9 b1 (Y0.out.kt (Kt.md h9.2 (Nat.zero_le _) HBK.out (List.mem_singleton.2 rfl)) (by decide)) w5 hd ho, h9.2.trans ho.md⟩) hord)
              · intro listed f w2 hall hJ
                have xf : (fun w9 => VRow w9 w.heap.size (.slice (some ⟨gb, 0, none⟩) m capb) ((ys2.set 0 b0).set 1 b1) ∧ Md gb w8v w9) w2 := hJ.fin (hall 11 (by simp))
                simp only [putAll, Act.put, List.setIfInBounds_toArray, List.set_cons_zero, List.set_cons_succ, Nat.zero_add, Nat.reduceAdd]
                clear hJ hall hT HFX hFst
                generalize f 0 = y0
                generalize f 1 = y1
                generalize f 2 = y2
                generalize f 3 = y3
                generalize f 4 = y4
                generalize f 5 = y5
                generalize f 6 = y6
                generalize f 7 = y7
                generalize f 8 = y8
                generalize f 10 = y10
                replace F := Lib.hid (F.out.setb rfl HBK.out xf.2 xf.1)
                clear xf Y0 Y1 R0 R1 HBK GLT
                obtain ⟨w9, rfl⟩ : ∃ u, u = w2 := ⟨_, rfl⟩
                have hsw : (ys2.set 0 b0).set 1 b1 = ys := by rw [HYS.out]; exact swap_two HY0.out HY1.out
                rw [hsw] at F
                clear hsw HYS HNR HM2 HZ0 HZ1 HY0 HY1
                go_wp2_with (first | (with_reducible refine stop_load (t := 30) ?_) | (with_reducible refine stop_store (t := 30) ?_) | (with_reducible refine stop_load (t := 24) ?_) | (with_reducible refine stop_store (t := 24) ?_) | (with_reducible refine stop_load (t := 48) ?_) | (with_reducible refine stop_store (t := 48) ?_) | (with_reducible refine stop_build (t := 30) ?_) | (with_reducible refine stop_bs (t := 59) ?_) | (with_reducible refine stop_app ?_))
                go_loopw [10] (fun i wr => ∃ k : Nat, k ≤ m ∧ i = .int .i64 k ∧ Hid (FS w wr D rv1 zs (.slice ada n capa) xs (.slice (some ⟨gb, 0, none⟩) m capb) ys)) (fun i _ => m - (intOf i).toNat)
                case atStart => exact ⟨0, by omega, rfl, F⟩
                case round =>
                  clear F
                  obtain ⟨k, hk, rfl, F⟩ := hrel
                  by_cases hlt : k < m
                  · have q0 : (0 : Int) ≤ (k : Int) := by omega
                    have q1 : (k : Int) < (m : Int) := by omega
                    obtain ⟨y, hy⟩ : ∃ y, ys[k]? = some y := ⟨_, List.getElem?_eq_getElem (by rw [← HM.out]; exact hlt)⟩
                    obtain ⟨a9, o9, e9, hlt9, hr9⟩ := F.out.b.rd.1.read (by rw [← HM.out]; omega)
                    cases e9
                    have R9 := Lib.hid (hr9 k y hy)
                    have Y9 := Lib.hid (F.out.b.ins k y hy)
                    have HY := Lib.hid hy
                    clear hy hr9 hlt9
                    go_wp2_with (first | (with_reducible refine stop_load (t := 30) ?_) | (with_reducible refine stop_store (t := 30) ?_) | (with_reducible refine stop_load (t := 24) ?_) | (with_reducible refine stop_store (t := 24) ?_) | (with_reducible refine stop_load (t := 48) ?_) | (with_reducible refine stop_store (t := 48) ?_) | (with_reducible refine stop_build (t := 30) ?_) | (with_reducible refine stop_bs (t := 59) ?_) | (with_reducible refine stop_app ?_))
                    (with_reducible refine ⟨?_⟩); (with_reducible refine at_any ?_ ?_); (focus go_simp); refine fun K0 hK => ld_vidr _ gb (0 + k * 42) y Y9.out.ok rfl (by first | rfl | (simp only [Nat.zero_add]; rfl)) R9.out (hK _ _ ?_)
                    clear hK
                    go_wp2_with (first | (with_reducible refine stop_load (t := 30) ?_) | (with_reducible refine stop_store (t := 30) ?_) | (with_reducible refine stop_load (t := 24) ?_) | (with_reducible refine stop_store (t := 24) ?_) | (with_reducible refine stop_load (t := 48) ?_) | (with_reducible refine stop_store (t := 48) ?_) | (with_reducible refine stop_build (t := 30) ?_) | (with_reducible refine stop_bs (t := 59) ?_) | (with_reducible refine stop_app ?_))
                    refine (tget_any D rv1 zs y.id wr F.out.tb Y9.out.ok.idN).mono ?_
                    rintro e wg ⟨x, b, rfl, hb, -, -, hxn, x2⟩
                    rw [decide_eq_false (made_odd HA.out HB.out HCT.out HY.out)] at hb
                    subst hb
                    have HX := Lib.hid hxn
                    replace F := Lib.hid (F.out.ext x2)
                    clear hxn x2 R9 Y9
                    go_wp2_with (first | (with_reducible refine stop_load (t := 30) ?_) | (with_reducible refine stop_store (t := 30) ?_) | (with_reducible refine stop_load (t := 24) ?_) | (with_reducible refine stop_store (t := 24) ?_) | (with_reducible refine stop_load (t := 48) ?_) | (with_reducible refine stop_store (t := 48) ?_) | (with_reducible refine stop_build (t := 30) ?_) | (with_reducible refine stop_bs (t := 59) ?_) | (with_reducible refine stop_app ?_))
                    (with_reducible refine ⟨?_⟩); (with_reducible refine at_any ?_ ?_); (focus go_simp); refine fun K0 hK => st_v _ _ wg.heap.size x rfl rfl rfl HX.out.ok (Bk.new rfl _ _) (by rfl) (fun wh hd ho => hK _ _ ?_)
                    clear hK
                    replace F := Lib.hid (F.out.ext (ho.below wg.heap.size (Nat.le_refl _) wg (Ex.alloc wg _)))
                    clear hd ho HX
                    go_wp2_with (first | (with_reducible refine stop_load (t := 30) ?_) | (with_reducible refine stop_store (t := 30) ?_) | (with_reducible refine stop_load (t := 24) ?_) | (with_reducible refine stop_store (t := 24) ?_) | (with_reducible refine stop_load (t := 48) ?_) | (with_reducible refine stop_store (t := 48) ?_) | (with_reducible refine stop_build (t := 30) ?_) | (with_reducible refine stop_bs (t := 59) ?_) | (with_reducible refine stop_app ?_))
                    (first | (refine ⟨?_, ?measure⟩; (repeat apply Exists.intro); refine ⟨?rel, rfl⟩) | refine ⟨?rel, ?measure⟩)
                    case rel => exact ⟨k + 1, by omega, by go_num, F⟩
                    case measure => simp [intOf]; omega
                  · obtain rfl : k = m := by omega
                    have q1 : ¬ (k : Int) < (k : Int) := by omega
                    obtain ⟨wq, rfl⟩ : ∃ u, u = wr := ⟨_, rfl⟩
                    clear HCT
                    go_wp2_with (first | (with_reducible refine stop_load (t := 30) ?_) | (with_reducible refine stop_store (t := 30) ?_) | (with_reducible refine stop_load (t := 24) ?_) | (with_reducible refine stop_store (t := 24) ?_) | (with_reducible refine stop_load (t := 48) ?_) | (with_reducible refine stop_store (t := 48) ?_) | (with_reducible refine stop_build (t := 30) ?_) | (with_reducible refine stop_bs (t := 59) ?_) | (with_reducible refine stop_app ?_))
                    have CF := tfill_any D rv1 zs (some ⟨gb, 0, none⟩) capb ys HCB.out wq F.out.tb F.out.b.rd.1 F.out.b.vis
                    rw [← HM.out] at CF
                    refine CF.mono ?_
                    rintro e wr4 hfp
                    obtain ⟨rfl, rv2, zs2, ht, hct, hlt9, hk9⟩ := hfp.yes (HB.out.rising (by decide))
                    replace F := Lib.hid (F.out.fill ht hlt9 hk9)
                    have HCT : Hid (zs2.map Vt.ct = ys.map Vt.ct) := Lib.hid hct
                    clear CF hfp ht hct hlt9 hk9
                    go_wp2_with (first | (with_reducible refine stop_load (t := 30) ?_) | (with_reducible refine stop_store (t := 30) ?_) | (with_reducible refine stop_load (t := 24) ?_) | (with_reducible refine stop_store (t := 24) ?_) | (with_reducible refine stop_load (t := 48) ?_) | (with_reducible refine stop_store (t := 48) ?_) | (with_reducible refine stop_build (t := 30) ?_) | (with_reducible refine stop_bs (t := 59) ?_) | (with_reducible refine stop_app ?_))
                    refine (tall_any D rv2 zs2 wr4 F.out.tb).mono ?_
                    rintro e wr5 ⟨v9, ts, rfl, hvr, hc2, x5⟩
                    obtain ⟨adt, capt, rfl, hit, hct9⟩ := hvr.inn2
                    replace F := Lib.hid (F.out.ext x5)
                    have HTS := Lib.hid hvr
                    have HC2 := Lib.hid hc2
                    have HCT9 := Lib.hid hct9
                    clear hvr hc2 x5 hit hct9
                    go_wp2_with (first | (with_reducible refine stop_load (t := 30) ?_) | (with_reducible refine stop_store (t := 30) ?_) | (with_reducible refine stop_load (t := 24) ?_) | (with_reducible refine stop_store (t := 24) ?_) | (with_reducible refine stop_load (t := 48) ?_) | (with_reducible refine stop_store (t := 48) ?_) | (with_reducible refine stop_build (t := 30) ?_) | (with_reducible refine stop_bs (t := 59) ?_) | (with_reducible refine stop_app ?_))
                    have CV := rvs_any adt (some ⟨gb, 0, none⟩) capt capb ts ys HCT9.out HCB.out wr5 HTS.out.rd.1 F.out.b.rd.1 HTS.out.vis F.out.b.vis
                    rw [← HM.out, decide_eq_true (HC2.out.trans HCT.out)] at CV
                    refine CV.mono ?_
                    rintro e wr5v ⟨rfl, x9⟩
                    replace F := Lib.hid (F.out.ext x9)
                    clear CV x9 HTS HC2 HCT9
                    skip
                    skip
                    clear HCT
                    go_wp2_with (first | (with_reducible refine stop_load (t := 30) ?_) | (with_reducible refine stop_store (t := 30) ?_) | (with_reducible refine stop_load (t := 24) ?_) | (with_reducible refine stop_store (t := 24) ?_) | (with_reducible refine stop_load (t := 48) ?_) | (with_reducible refine stop_store (t := 48) ?_) | (with_reducible refine stop_build (t := 30) ?_) | (with_reducible refine stop_bs (t := 59) ?_) | (with_reducible refine stop_app ?_))
                    refine (tfill_any D rv2 zs2 none 0 [] (by decide) wr5v F.out.tb ⟨Nat.le_refl _, fun _ => rfl, fun i x hx => by simp at hx, fun h => absurd h (Nat.lt_irrefl 0)⟩ (fun i x hx => by simp at hx)).mono ?_
                    rintro e wr6 hfp
                    obtain ⟨rfl, rv3, zs3, ht, hct, hlt9, hk9⟩ := hfp.yes ⟨Nat.zero_le _, fun i x hx => by simp at hx, fun i hi => by simp at hi⟩
                    replace F := Lib.hid (F.out.fill ht hlt9 hk9)
                    have hz3 : zs3.length = 0 := by have := congrArg List.length hct; simpa using this
                    have HZ3 := Lib.hid hz3
                    clear hfp ht hct hlt9 hk9 hz3
                    go_wp2_with (first | (with_reducible refine stop_load (t := 30) ?_) | (with_reducible refine stop_store (t := 30) ?_) | (with_reducible refine stop_load (t := 24) ?_) | (with_reducible refine stop_store (t := 24) ?_) | (with_reducible refine stop_load (t := 48) ?_) | (with_reducible refine stop_store (t := 48) ?_) | (with_reducible refine stop_build (t := 30) ?_) | (with_reducible refine stop_bs (t := 59) ?_) | (with_reducible refine stop_app ?_))
                    have CL := tlen_any D rv3 zs3 wr6 F.out.tb
                    rw [HZ3.out] at CL
                    refine CL.mono ?_
                    rintro e wr7 ⟨rfl, rfl⟩
                    clear CL
                    go_wp2_with (first | (with_reducible refine stop_load (t := 30) ?_) | (with_reducible refine stop_store (t := 30) ?_) | (with_reducible refine stop_load (t := 24) ?_) | (with_reducible refine stop_store (t := 24) ?_) | (with_reducible refine stop_load (t := 48) ?_) | (with_reducible refine stop_store (t := 48) ?_) | (with_reducible refine stop_build (t := 30) ?_) | (with_reducible refine stop_bs (t := 59) ?_) | (with_reducible refine stop_app ?_))
                    refine (known12 _).mono ?_
                    rintro e wr8 ⟨rfl, x8⟩
                    have BX := Lib.hid (Ex.trans F.out.ex x8)
                    clear x8
                    go_wp2_with fail
                    go_ret
                    exact ⟨rfl, BX.out⟩
          · have h2i : ¬ (1 : Int) < (m : Int) := by omega
            go_wp2_with (first | (with_reducible refine stop_load (t := 30) ?_) | (with_reducible refine stop_store (t := 30) ?_) | (with_reducible refine stop_load (t := 24) ?_) | (with_reducible refine stop_store (t := 24) ?_) | (with_reducible refine stop_load (t := 48) ?_) | (with_reducible refine stop_store (t := 48) ?_) | (with_reducible refine stop_build (t := 30) ?_) | (with_reducible refine stop_bs (t := 59) ?_) | (with_reducible refine stop_app ?_))
            go_loopw [10] (fun i wr => ∃ k : Nat, k ≤ m ∧ i = .int .i64 k ∧ Hid (FS w wr D rv1 zs (.slice ada n capa) xs (.slice adb m capb) ys)) (fun i _ => m - (intOf i).toNat)
            case atStart => exact ⟨0, by omega, rfl, F⟩
            case round =>
              clear F
              obtain ⟨k, hk, rfl, F⟩ := hrel
              by_cases hlt : k < m
              · have q0 : (0 : Int) ≤ (k : Int) := by omega
                have q1 : (k : Int) < (m : Int) := by omega
                obtain ⟨y, hy⟩ : ∃ y, ys[k]? = some y := ⟨_, List.getElem?_eq_getElem (by rw [← HM.out]; exact hlt)⟩
                obtain ⟨a9, o9, e9, hlt9, hr9⟩ := F.out.b.rd.1.read (by rw [← HM.out]; omega)
                subst e9
                have R9 := Lib.hid (hr9 k y hy)
                have Y9 := Lib.hid (F.out.b.ins k y hy)
                have HY := Lib.hid hy
                clear hy hr9 hlt9
                go_wp2_with (first | (with_reducible refine stop_load (t := 30) ?_) | (with_reducible refine stop_store (t := 30) ?_) | (with_reducible refine stop_load (t := 24) ?_) | (with_reducible refine stop_store (t := 24) ?_) | (with_reducible refine stop_load (t := 48) ?_) | (with_reducible refine stop_store (t := 48) ?_) | (with_reducible refine stop_build (t := 30) ?_) | (with_reducible refine stop_bs (t := 59) ?_) | (with_reducible refine stop_app ?_))
                (with_reducible refine ⟨?_⟩); (with_reducible refine at_any ?_ ?_); (focus go_simp); refine fun K0 hK => ld_vidr _ a9 (o9 + k * 42) y Y9.out.ok rfl (by first | rfl | (simp only [Nat.zero_add]; rfl)) R9.out (hK _ _ ?_)
                clear hK
                go_wp2_with (first | (with_reducible refine stop_load (t := 30) ?_) | (with_reducible refine stop_store (t := 30) ?_) | (with_reducible refine stop_load (t := 24) ?_) | (with_reducible refine stop_store (t := 24) ?_) | (with_reducible refine stop_load (t := 48) ?_) | (with_reducible refine stop_store (t := 48) ?_) | (with_reducible refine stop_build (t := 30) ?_) | (with_reducible refine stop_bs (t := 59) ?_) | (with_reducible refine stop_app ?_))
                refine (tget_any D rv1 zs y.id wr F.out.tb Y9.out.ok.idN).mono ?_
                rintro e wg ⟨x, b, rfl, hb, -, -, hxn, x2⟩
                rw [decide_eq_false (made_odd HA.out HB.out HCT.out HY.out)] at hb
                subst hb
                have HX := Lib.hid hxn
                replace F := Lib.hid (F.out.ext x2)
                clear hxn x2 R9 Y9
                go_wp2_with (first | (with_reducible refine stop_load (t := 30) ?_) | (with_reducible refine stop_store (t := 30) ?_) | (with_reducible refine stop_load (t := 24) ?_) | (with_reducible refine stop_store (t := 24) ?_) | (with_reducible refine stop_load (t := 48) ?_) | (with_reducible refine stop_store (t := 48) ?_) | (with_reducible refine stop_build (t := 30) ?_) | (with_reducible refine stop_bs (t := 59) ?_) | (with_reducible refine stop_app ?_))
                (with_reducible refine ⟨?_⟩); (with_reducible refine at_any ?_ ?_); (focus go_simp); refine fun K0 hK => st_v _ _ wg.heap.size x rfl rfl rfl HX.out.ok (Bk.new rfl _ _) (by rfl) (fun wh hd ho => hK _ _ ?_)
                clear hK
                replace F := Lib.hid (F.out.ext (ho.below wg.heap.size (Nat.le_refl _) wg (Ex.alloc wg _)))
                clear hd ho HX
                go_wp2_with (first | (with_reducible refine stop_load (t := 30) ?_) | (with_reducible refine stop_store (t := 30) ?_) | (with_reducible refine stop_load (t := 24) ?_) | (with_reducible refine stop_store (t := 24) ?_) | (with_reducible refine stop_load (t := 48) ?_) | (with_reducible refine stop_store (t := 48) ?_) | (with_reducible refine stop_build (t := 30) ?_) | (with_reducible refine stop_bs (t := 59) ?_) | (with_reducible refine stop_app ?_))
                (first | (refine ⟨?_, ?measure⟩; (repeat apply Exists.intro); refine ⟨?rel, rfl⟩) | refine ⟨?rel, ?measure⟩)
                case rel => exact ⟨k + 1, by omega, by go_num, F⟩
                case measure => simp [intOf]; omega
              · obtain rfl : k = m := by omega
                have q1 : ¬ (k : Int) < (k : Int) := by omega
                obtain ⟨wq, rfl⟩ : ∃ u, u = wr := ⟨_, rfl⟩
                clear HCT
                go_wp2_with (first | (with_reducible refine stop_load (t := 30) ?_) | (with_reducible refine stop_store (t := 30) ?_) | (with_reducible refine stop_load (t := 24) ?_) | (with_reducible refine stop_store (t := 24) ?_) | (with_reducible refine stop_load (t := 48) ?_) | (with_reducible refine stop_store (t := 48) ?_) | (with_reducible refine stop_build (t := 30) ?_) | (with_reducible refine stop_bs (t := 59) ?_) | (with_reducible refine stop_app ?_))
                have CF := tfill_any D rv1 zs adb capb ys HCB.out wq F.out.tb F.out.b.rd.1 F.out.b.vis
                rw [← HM.out] at CF
                refine CF.mono ?_
                rintro e wr4 hfp
                obtain ⟨rfl, rv2, zs2, ht, hct, hlt9, hk9⟩ := hfp.yes (HB.out.rising (by decide))
                replace F := Lib.hid (F.out.fill ht hlt9 hk9)
                have HCT : Hid (zs2.map Vt.ct = ys.map Vt.ct) := Lib.hid hct
                clear CF hfp ht hct hlt9 hk9
                go_wp2_with (first | (with_reducible refine stop_load (t := 30) ?_) | (with_reducible refine stop_store (t := 30) ?_) | (with_reducible refine stop_load (t := 24) ?_) | (with_reducible refine stop_store (t := 24) ?_) | (with_reducible refine stop_load (t := 48) ?_) | (with_reducible refine stop_store (t := 48) ?_) | (with_reducible refine stop_build (t := 30) ?_) | (with_reducible refine stop_bs (t := 59) ?_) | (with_reducible refine stop_app ?_))
                refine (tall_any D rv2 zs2 wr4 F.out.tb).mono ?_
                rintro e wr5 ⟨v9, ts, rfl, hvr, hc2, x5⟩
                obtain ⟨adt, capt, rfl, hit, hct9⟩ := hvr.inn2
                replace F := Lib.hid (F.out.ext x5)
                have HTS := Lib.hid hvr
                have HC2 := Lib.hid hc2
                have HCT9 := Lib.hid hct9
                clear hvr hc2 x5 hit hct9
                go_wp2_with (first | (with_reducible refine stop_load (t := 30) ?_) | (with_reducible refine stop_store (t := 30) ?_) | (with_reducible refine stop_load (t := 24) ?_) | (with_reducible refine stop_store (t := 24) ?_) | (with_reducible refine stop_load (t := 48) ?_) | (with_reducible refine stop_store (t := 48) ?_) | (with_reducible refine stop_build (t := 30) ?_) | (with_reducible refine stop_bs (t := 59) ?_) | (with_reducible refine stop_app ?_))
                have CV := rvs_any adt adb capt capb ts ys HCT9.out HCB.out wr5 HTS.out.rd.1 F.out.b.rd.1 HTS.out.vis F.out.b.vis
                rw [← HM.out, decide_eq_true (HC2.out.trans HCT.out)] at CV
                refine CV.mono ?_
                rintro e wr5v ⟨rfl, x9⟩
                replace F := Lib.hid (F.out.ext x9)
                clear CV x9 HTS HC2 HCT9
                skip
                skip
                clear HCT
                go_wp2_with (first | (with_reducible refine stop_load (t := 30) ?_) | (with_reducible refine stop_store (t := 30) ?_) | (with_reducible refine stop_load (t := 24) ?_) | (with_reducible refine stop_store (t := 24) ?_) | (with_reducible refine stop_load (t := 48) ?_) | (with_reducible refine stop_store (t := 48) ?_) | (with_reducible refine stop_build (t := 30) ?_) | (with_reducible refine stop_bs (t := 59) ?_) | (with_reducible refine stop_app ?_))
                refine (tfill_any D rv2 zs2 none 0 [] (by decide) wr5v F.out.tb ⟨Nat.le_refl _, fun _ => rfl, fun i x hx => by simp at hx, fun h => absurd h (Nat.lt_irrefl 0)⟩ (fun i x hx => by simp at hx)).mono ?_
                rintro e wr6 hfp
                obtain ⟨rfl, rv3, zs3, ht, hct, hlt9, hk9⟩ := hfp.yes ⟨Nat.zero_le _, fun i x hx => by simp at hx, fun i hi => by simp at hi⟩
                replace F := Lib.hid (F.out.fill ht hlt9 hk9)
                have hz3 : zs3.length = 0 := by have := congrArg List.length hct; simpa using this
                have HZ3 := Lib.hid hz3
                clear hfp ht hct hlt9 hk9 hz3
                go_wp2_with (first | (with_reducible refine stop_load (t := 30) ?_) | (with_reducible refine stop_store (t := 30) ?_) | (with_reducible refine stop_load (t := 24) ?_) | (with_reducible refine stop_store (t := 24) ?_) | (with_reducible refine stop_load (t := 48) ?_) | (with_reducible refine stop_store (t := 48) ?_) | (with_reducible refine stop_build (t := 30) ?_) | (with_reducible refine stop_bs (t := 59) ?_) | (with_reducible refine stop_app ?_))
                have CL := tlen_any D rv3 zs3 wr6 F.out.tb
                rw [HZ3.out] at CL
                refine CL.mono ?_
                rintro e wr7 ⟨rfl, rfl⟩
                clear CL
                go_wp2_with (first | (with_reducible refine stop_load (t := 30) ?_) | (with_reducible refine stop_store (t := 30) ?_) | (with_reducible refine stop_load (t := 24) ?_) | (with_reducible refine stop_store (t := 24) ?_) | (with_reducible refine stop_load (t := 48) ?_) | (with_reducible refine stop_store (t := 48) ?_) | (with_reducible refine stop_build (t := 30) ?_) | (with_reducible refine stop_bs (t := 59) ?_) | (with_reducible refine stop_app ?_))
                refine (known12 _).mono ?_
                rintro e wr8 ⟨rfl, x8⟩
                have BX := Lib.hid (Ex.trans F.out.ex x8)
                clear x8
                go_wp2_with fail
                go_ret
                exact ⟨rfl, BX.out⟩
end Go.Proofs.Ytedljddjmojeeaa
