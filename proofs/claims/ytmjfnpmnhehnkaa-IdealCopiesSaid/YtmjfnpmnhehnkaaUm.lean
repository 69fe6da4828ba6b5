/- IdealCopies walked -/
import Derived.Test.YtmjfnpmnhehnkaaUl
import Derived.Test.YtmjfnpmnhehnkaaVmf
namespace Go.Proofs.Ytmjfnpmnhehnkaa
open Go.RowKit
set_option maxHeartbeats 8000000 in
set_option maxRecDepth 100000 in
theorem copies_any (ad : Option Addr) (cap : Nat) (l : List Kq) (hL : l.length ≤ 9223372036854775807) (ad2 : Option Addr) (cap2 : Nat) (o : List Kq) (hL2 : o.length ≤ 9223372036854775807) (w : World) (hin : Kp.In ad cap l w) (hin2 : Kp.In ad2 cap2 o w) : Calls Try.prog 10 #[.slice ad l.length cap, .slice ad2 o.length cap2] w fun e w' => e = .returned (.bool true) ∧ Ex w w' := by
 have HIN := Lib.hid hin
 have HIN2 := Lib.hid hin2
 obtain ⟨n, hn⟩ : ∃ n, n = l.length := ⟨_, rfl⟩
 rw [← hn] at hL ⊢
 have HN := Lib.hid hn
 obtain ⟨n2, hn2⟩ : ∃ n, n = o.length := ⟨_, rfl⟩
 rw [← hn2] at hL2 ⊢
 have HN2 := Lib.hid hn2
 clear hn hin hn2 hin2
 go_enter Try.func10, Try.ntmps10
 go_wp2_with (first | (with_reducible refine stop_load (t := 36) ?_) | (with_reducible refine stop_store (t := 36) ?_) | (with_reducible refine stop_load (t := 86) ?_) | (with_reducible refine stop_store (t := 86) ?_) | (with_reducible refine stop_load (t := 83) ?_) | (with_reducible refine stop_store (t := 83) ?_) | (with_reducible refine stop_load (t := 34) ?_) | (with_reducible refine stop_store (t := 34) ?_) | (with_reducible refine stop_load (t := 32) ?_) | (with_reducible refine stop_store (t := 32) ?_) | (with_reducible refine stop_build ?_) | (with_reducible refine stop_eql (t := 34) ?_) | (with_reducible refine stop_neq (t := 34) ?_) | (with_reducible refine stop_eql (t := 32) ?_) | (with_reducible refine stop_neq (t := 32) ?_) | (with_reducible refine stop_load (t := 76) ?_))
 refine (inew_any w).mono ?_
 rintro e w1 ⟨M, D, r, v, rfl, h1, h2, h3, h4⟩
 have HIM := Lib.hid h1
 have HM := Lib.hid h2
 have HV := Lib.hid (RightV.none h3)
 have BW := Lib.hid h4
 clear h1 h2 h3 h4
 go_wp2_with (first | (with_reducible refine stop_load (t := 36) ?_) | (with_reducible refine stop_store (t := 36) ?_) | (with_reducible refine stop_load (t := 86) ?_) | (with_reducible refine stop_store (t := 86) ?_) | (with_reducible refine stop_load (t := 83) ?_) | (with_reducible refine stop_store (t := 83) ?_) | (with_reducible refine stop_load (t := 34) ?_) | (with_reducible refine stop_store (t := 34) ?_) | (with_reducible refine stop_load (t := 32) ?_) | (with_reducible refine stop_store (t := 32) ?_) | (with_reducible refine stop_build ?_) | (with_reducible refine stop_eql (t := 34) ?_) | (with_reducible refine stop_neq (t := 34) ?_) | (with_reducible refine stop_eql (t := 32) ?_) | (with_reducible refine stop_neq (t := 32) ?_) | (with_reducible refine stop_load (t := 76) ?_))
 go_loopw [6] (fun i wr => ∃ (k : Nat) (r : Nat → Value) (v : Nat → List Vt), k ≤ n ∧ k ≤ 30 ∧ i = .int .i64 k ∧ Hid (IM wr w.heap.size M D r v) ∧ Hid (RightV v) ∧ Hid (Ex w wr)) (fun i _ => n - (intOf i).toNat)
 case atStart => exact ⟨0, r, v, by omega, by omega, rfl, HIM, HV, BW⟩
 case round =>
  clear HIM HV BW
  obtain ⟨k, r, v, hk, hk30, rfl, HIM, HV, BW⟩ := hrel
  by_cases hlt2 : k < n ∧ k < 30
  ·obtain ⟨h1, h2⟩ := hlt2
   obtain ⟨ab, ofs, rfl, ha, hc⟩ := HIN.out.read (by rw [← HN.out]; omega)
   obtain ⟨x, hx⟩ : ∃ x, l[k]? = some x := ⟨_, List.getElem?_eq_getElem (by rw [← HN.out]; exact h1)⟩
   have XI := Lib.hid ((HIN.out.ins k x hx).ext BW.out)
   have XR : Hid (wr.rangeAt ab (ofs + k * 8) x.C) := Lib.hid (fun j u hu => (Below.cell (p := ⟨ab, ofs + k * 8 + j, none⟩) BW.out ha).trans (hc k x hx j u hu))
   have HAB : Hid (ab < wr.heap.size) := Lib.hid (Nat.lt_of_lt_of_le ha BW.out.sz)
   clear hc hx ha
   have q0 : (0 : Int) ≤ (k : Int) := by omega
   have q1 : (k : Int) < (n : Int) := by omega
   have q2 : (k : Int) < 30 := by omega
   go_wp2_with (first | (with_reducible refine stop_load (t := 36) ?_) | (with_reducible refine stop_store (t := 36) ?_) | (with_reducible refine stop_load (t := 86) ?_) | (with_reducible refine stop_store (t := 86) ?_) | (with_reducible refine stop_load (t := 83) ?_) | (with_reducible refine stop_store (t := 83) ?_) | (with_reducible refine stop_load (t := 34) ?_) | (with_reducible refine stop_store (t := 34) ?_) | (with_reducible refine stop_load (t := 32) ?_) | (with_reducible refine stop_store (t := 32) ?_) | (with_reducible refine stop_build ?_) | (with_reducible refine stop_eql (t := 34) ?_) | (with_reducible refine stop_neq (t := 34) ?_) | (with_reducible refine stop_eql (t := 32) ?_) | (with_reducible refine stop_neq (t := 32) ?_) | (with_reducible refine stop_load (t := 76) ?_))
   (with_reducible refine ⟨?_⟩); (with_reducible refine at_any ?_ ?_); (focus go_simp); refine fun K0 hK => ld_k _ ab (ofs + k * 8) x rfl rfl XR.out (hK _ _ ?_)
   clear hK
   go_wp2_with (first | (with_reducible refine stop_load (t := 36) ?_) | (with_reducible refine stop_store (t := 36) ?_) | (with_reducible refine stop_load (t := 86) ?_) | (with_reducible refine stop_store (t := 86) ?_) | (with_reducible refine stop_load (t := 83) ?_) | (with_reducible refine stop_store (t := 83) ?_) | (with_reducible refine stop_load (t := 34) ?_) | (with_reducible refine stop_store (t := 34) ?_) | (with_reducible refine stop_load (t := 32) ?_) | (with_reducible refine stop_store (t := 32) ?_) | (with_reducible refine stop_build ?_) | (with_reducible refine stop_eql (t := 34) ?_) | (with_reducible refine stop_neq (t := 34) ?_) | (with_reducible refine stop_eql (t := 32) ?_) | (with_reducible refine stop_neq (t := 32) ?_) | (with_reducible refine stop_load (t := 76) ?_))
   refine (req_any x wr XI.out).mono ?_
   rintro e w4 ⟨q, rfl, hqi, hqr, xx⟩
   have QI0 := Lib.hid hqi
   replace HIM := Lib.hid (HIM.out.ext xx)
   replace BW := Lib.hid (Ex.trans BW.out xx)
   clear XI XR HAB hqi hqr xx
   go_wp2_with (first | (with_reducible refine stop_load (t := 36) ?_) | (with_reducible refine stop_store (t := 36) ?_) | (with_reducible refine stop_load (t := 86) ?_) | (with_reducible refine stop_store (t := 86) ?_) | (with_reducible refine stop_load (t := 83) ?_) | (with_reducible refine stop_store (t := 83) ?_) | (with_reducible refine stop_load (t := 34) ?_) | (with_reducible refine stop_store (t := 34) ?_) | (with_reducible refine stop_load (t := 32) ?_) | (with_reducible refine stop_store (t := 32) ?_) | (with_reducible refine stop_build ?_) | (with_reducible refine stop_eql (t := 34) ?_) | (with_reducible refine stop_neq (t := 34) ?_) | (with_reducible refine stop_eql (t := 32) ?_) | (with_reducible refine stop_neq (t := 32) ?_) | (with_reducible refine stop_load (t := 76) ?_))
   obtain ⟨s, hs, hs16⟩ := shv_range q.id
   refine (ido_any w.heap.size M D r v q s hs hs16 w4 HIM.out HM.out QI0.out).mono ?_
   rintro e w5 ⟨y, r2, v2, rfl, hy, _, him, hst, htc⟩
   replace BW := Lib.hid (htc.ex9 (HIM.out.ts.tb s hs16) BW.out (HIM.out.ts.lo s hs16))
   replace HIM := Lib.hid him
   replace HV := Lib.hid (hst.right hs16 HV.out)
   clear hs hy him hst htc QI0
   go_wp2_with (first | (with_reducible refine stop_load (t := 36) ?_) | (with_reducible refine stop_store (t := 36) ?_) | (with_reducible refine stop_load (t := 86) ?_) | (with_reducible refine stop_store (t := 86) ?_) | (with_reducible refine stop_load (t := 83) ?_) | (with_reducible refine stop_store (t := 83) ?_) | (with_reducible refine stop_load (t := 34) ?_) | (with_reducible refine stop_store (t := 34) ?_) | (with_reducible refine stop_load (t := 32) ?_) | (with_reducible refine stop_store (t := 32) ?_) | (with_reducible refine stop_build ?_) | (with_reducible refine stop_eql (t := 34) ?_) | (with_reducible refine stop_neq (t := 34) ?_) | (with_reducible refine stop_eql (t := 32) ?_) | (with_reducible refine stop_neq (t := 32) ?_) | (with_reducible refine stop_load (t := 76) ?_))
   go_roundw
   case rel => exact ⟨k + 1, r2, v2, by omega, by omega, by go_num, HIM, HV, BW⟩
   case measure => simp [intOf]; omega
  ·by_cases hn2 : k < n
   ·have q2 : ¬ (k : Int) < 30 := by omega
    have q1 : (k : Int) < (n : Int) := by omega
    go_wp2_with (first | (with_reducible refine stop_load (t := 36) ?_) | (with_reducible refine stop_store (t := 36) ?_) | (with_reducible refine stop_load (t := 86) ?_) | (with_reducible refine stop_store (t := 86) ?_) | (with_reducible refine stop_load (t := 83) ?_) | (with_reducible refine stop_store (t := 83) ?_) | (with_reducible refine stop_load (t := 34) ?_) | (with_reducible refine stop_store (t := 34) ?_) | (with_reducible refine stop_load (t := 32) ?_) | (with_reducible refine stop_store (t := 32) ?_) | (with_reducible refine stop_build ?_) | (with_reducible refine stop_eql (t := 34) ?_) | (with_reducible refine stop_neq (t := 34) ?_) | (with_reducible refine stop_eql (t := 32) ?_) | (with_reducible refine stop_neq (t := 32) ?_) | (with_reducible refine stop_load (t := 76) ?_))
    clear q2
    clear q1
    refine (iall_any w.heap.size M D r v wr HIM.out).mono ?_
    rintro e w3 ⟨va, xs, rfl, hrw, hct, xx⟩
    have WAS := Lib.hid hrw
    have WCT := Lib.hid hct
    replace HIM := Lib.hid (HIM.out.ext xx)
    replace BW := Lib.hid (Ex.trans BW.out xx)
    clear hrw hct xx
    go_wp2_with (first | (with_reducible refine stop_load (t := 36) ?_) | (with_reducible refine stop_store (t := 36) ?_) | (with_reducible refine stop_load (t := 86) ?_) | (with_reducible refine stop_store (t := 86) ?_) | (with_reducible refine stop_load (t := 83) ?_) | (with_reducible refine stop_store (t := 83) ?_) | (with_reducible refine stop_load (t := 34) ?_) | (with_reducible refine stop_store (t := 34) ?_) | (with_reducible refine stop_load (t := 32) ?_) | (with_reducible refine stop_store (t := 32) ?_) | (with_reducible refine stop_build ?_) | (with_reducible refine stop_eql (t := 34) ?_) | (with_reducible refine stop_neq (t := 34) ?_) | (with_reducible refine stop_eql (t := 32) ?_) | (with_reducible refine stop_neq (t := 32) ?_) | (with_reducible refine stop_load (t := 76) ?_))
    refine (icopy_any w.heap.size M D r v (HIM.out.rising HV.out) w3 HIM.out).mono ?_
    rintro e w4 ⟨M2, D2, rc, vc, rfl, h1, h2, h3, h4⟩
    have HC := Lib.hid h1
    have HM2 := Lib.hid h2
    have HVC := Lib.hid (RightV.ct h3 HV.out)
    have HCT := Lib.hid ((allV_ct h3 16 (Nat.le_refl _)).trans WCT.out.symm)
    have BX := Lib.hid h4
    clear h1 h2 h3 h4
    go_wp2_with (first | (with_reducible refine stop_load (t := 36) ?_) | (with_reducible refine stop_store (t := 36) ?_) | (with_reducible refine stop_load (t := 86) ?_) | (with_reducible refine stop_store (t := 86) ?_) | (with_reducible refine stop_load (t := 83) ?_) | (with_reducible refine stop_store (t := 83) ?_) | (with_reducible refine stop_load (t := 34) ?_) | (with_reducible refine stop_store (t := 34) ?_) | (with_reducible refine stop_load (t := 32) ?_) | (with_reducible refine stop_store (t := 32) ?_) | (with_reducible refine stop_build ?_) | (with_reducible refine stop_eql (t := 34) ?_) | (with_reducible refine stop_neq (t := 34) ?_) | (with_reducible refine stop_eql (t := 32) ?_) | (with_reducible refine stop_neq (t := 32) ?_) | (with_reducible refine stop_load (t := 76) ?_))
    refine (iall_any w3.heap.size M2 D2 rc vc w4 HC.out).mono ?_
    rintro e w5 ⟨vb, ys, rfl, hrw, hct, xx⟩
    replace HC := Lib.hid (HC.out.ext xx)
    replace BX := Lib.hid (Ex.trans BX.out xx)
    go_wp2_with (first | (with_reducible refine stop_load (t := 36) ?_) | (with_reducible refine stop_store (t := 36) ?_) | (with_reducible refine stop_load (t := 86) ?_) | (with_reducible refine stop_store (t := 86) ?_) | (with_reducible refine stop_load (t := 83) ?_) | (with_reducible refine stop_store (t := 83) ?_) | (with_reducible refine stop_load (t := 34) ?_) | (with_reducible refine stop_store (t := 34) ?_) | (with_reducible refine stop_load (t := 32) ?_) | (with_reducible refine stop_store (t := 32) ?_) | (with_reducible refine stop_build ?_) | (with_reducible refine stop_eql (t := 34) ?_) | (with_reducible refine stop_neq (t := 34) ?_) | (with_reducible refine stop_eql (t := 32) ?_) | (with_reducible refine stop_neq (t := 32) ?_) | (with_reducible refine stop_load (t := 76) ?_))
    refine (rvs_rows hrw (WAS.out.ext BX.out)).mono ?_
    rintro e w6 ⟨rfl, x6⟩
    rw [decide_eq_true (hct.trans HCT.out)]
    replace HC := Lib.hid (HC.out.ext x6)
    replace BX := Lib.hid (Ex.trans BX.out x6)
    clear hrw hct xx x6
    go_wp2_with (first | (with_reducible refine stop_load (t := 36) ?_) | (with_reducible refine stop_store (t := 36) ?_) | (with_reducible refine stop_load (t := 86) ?_) | (with_reducible refine stop_store (t := 86) ?_) | (with_reducible refine stop_load (t := 83) ?_) | (with_reducible refine stop_store (t := 83) ?_) | (with_reducible refine stop_load (t := 34) ?_) | (with_reducible refine stop_store (t := 34) ?_) | (with_reducible refine stop_load (t := 32) ?_) | (with_reducible refine stop_store (t := 32) ?_) | (with_reducible refine stop_build ?_) | (with_reducible refine stop_eql (t := 34) ?_) | (with_reducible refine stop_neq (t := 34) ?_) | (with_reducible refine stop_eql (t := 32) ?_) | (with_reducible refine stop_neq (t := 32) ?_) | (with_reducible refine stop_load (t := 76) ?_))
    go_loopw [9] (fun i wr => ∃ (k : Nat) (rc : Nat → Value) (vc : Nat → List Vt), k ≤ n2 ∧ k ≤ 20 ∧ i = .int .i64 k ∧ Hid (IM wr w3.heap.size M2 D2 rc vc) ∧ Hid (RightV vc) ∧ Hid (Ex w3 wr)) (fun i _ => n2 - (intOf i).toNat)
    case atStart => exact ⟨0, rc, vc, by omega, by omega, rfl, HC, HVC, BX⟩
    case round =>
     clear HC HVC HCT BX
     clear hk
     obtain ⟨k, rc, vc, hk, hk20, rfl, HC, HVC, BX⟩ := hrel
     by_cases hlt2 : k < n2 ∧ k < 20
     ·have BZ := Lib.hid (Ex.trans BW.out BX.out)
      obtain ⟨h1, h2⟩ := hlt2
      obtain ⟨ab, ofs, rfl, ha, hc⟩ := HIN2.out.read (by rw [← HN2.out]; omega)
      obtain ⟨x, hx⟩ : ∃ x, o[k]? = some x := ⟨_, List.getElem?_eq_getElem (by rw [← HN2.out]; exact h1)⟩
      have XI := Lib.hid ((HIN2.out.ins k x hx).ext BZ.out)
      have XR : Hid (wr.rangeAt ab (ofs + k * 8) x.C) := Lib.hid (fun j u hu => (Below.cell (p := ⟨ab, ofs + k * 8 + j, none⟩) BZ.out ha).trans (hc k x hx j u hu))
      have HAB : Hid (ab < wr.heap.size) := Lib.hid (Nat.lt_of_lt_of_le ha BZ.out.sz)
      clear hc hx ha
      have q0 : (0 : Int) ≤ (k : Int) := by omega
      have q1 : (k : Int) < (n2 : Int) := by omega
      have q2 : (k : Int) < 20 := by omega
      clear BZ
      go_wp2_with (first | (with_reducible refine stop_load (t := 36) ?_) | (with_reducible refine stop_store (t := 36) ?_) | (with_reducible refine stop_load (t := 86) ?_) | (with_reducible refine stop_store (t := 86) ?_) | (with_reducible refine stop_load (t := 83) ?_) | (with_reducible refine stop_store (t := 83) ?_) | (with_reducible refine stop_load (t := 34) ?_) | (with_reducible refine stop_store (t := 34) ?_) | (with_reducible refine stop_load (t := 32) ?_) | (with_reducible refine stop_store (t := 32) ?_) | (with_reducible refine stop_build ?_) | (with_reducible refine stop_eql (t := 34) ?_) | (with_reducible refine stop_neq (t := 34) ?_) | (with_reducible refine stop_eql (t := 32) ?_) | (with_reducible refine stop_neq (t := 32) ?_) | (with_reducible refine stop_load (t := 76) ?_))
      refine (iall_any w3.heap.size M2 D2 rc vc wr HC.out).mono ?_
      rintro e w7 ⟨vb, ys, rfl, hrw, hct, xx⟩
      have BEF := Lib.hid hrw
      have DJ := Lib.hid (fun s hs => HC.out.djn (s := s) hrw hs)
      have BCT := Lib.hid hct
      replace HC := Lib.hid (HC.out.ext xx)
      replace BX := Lib.hid (Ex.trans BX.out xx)
      replace XI := Lib.hid (XI.out.ext xx)
      have XR7 : Hid (w7.rangeAt ab (ofs + k * 8) x.C) := Lib.hid (fun j u hu => (Below.cell (p := ⟨ab, ofs + k * 8 + j, none⟩) xx HAB.out).trans (XR.out j u hu))
      clear XR HAB
      clear hrw hct xx
      go_wp2_with (first | (with_reducible refine stop_load (t := 36) ?_) | (with_reducible refine stop_store (t := 36) ?_) | (with_reducible refine stop_load (t := 86) ?_) | (with_reducible refine stop_store (t := 86) ?_) | (with_reducible refine stop_load (t := 83) ?_) | (with_reducible refine stop_store (t := 83) ?_) | (with_reducible refine stop_load (t := 34) ?_) | (with_reducible refine stop_store (t := 34) ?_) | (with_reducible refine stop_load (t := 32) ?_) | (with_reducible refine stop_store (t := 32) ?_) | (with_reducible refine stop_build ?_) | (with_reducible refine stop_eql (t := 34) ?_) | (with_reducible refine stop_neq (t := 34) ?_) | (with_reducible refine stop_eql (t := 32) ?_) | (with_reducible refine stop_neq (t := 32) ?_) | (with_reducible refine stop_load (t := 76) ?_))
      (with_reducible refine ⟨?_⟩); (with_reducible refine at_any ?_ ?_); (focus go_simp); refine fun K0 hK => ld_k _ ab (ofs + k * 8) x rfl rfl XR7.out (hK _ _ ?_)
      clear hK
      go_wp2_with (first | (with_reducible refine stop_load (t := 36) ?_) | (with_reducible refine stop_store (t := 36) ?_) | (with_reducible refine stop_load (t := 86) ?_) | (with_reducible refine stop_store (t := 86) ?_) | (with_reducible refine stop_load (t := 83) ?_) | (with_reducible refine stop_store (t := 83) ?_) | (with_reducible refine stop_load (t := 34) ?_) | (with_reducible refine stop_store (t := 34) ?_) | (with_reducible refine stop_load (t := 32) ?_) | (with_reducible refine stop_store (t := 32) ?_) | (with_reducible refine stop_build ?_) | (with_reducible refine stop_eql (t := 34) ?_) | (with_reducible refine stop_neq (t := 34) ?_) | (with_reducible refine stop_eql (t := 32) ?_) | (with_reducible refine stop_neq (t := 32) ?_) | (with_reducible refine stop_load (t := 76) ?_))
      refine (req_any x w7 XI.out).mono ?_
      rintro e w8 ⟨q, rfl, hqi, hqr, xx⟩
      have QI0 := Lib.hid hqi
      replace HC := Lib.hid (HC.out.ext xx)
      replace BX := Lib.hid (Ex.trans BX.out xx)
      replace BEF := Lib.hid (BEF.out.ext xx)
      clear XI XR7 hqi hqr xx
      go_wp2_with (first | (with_reducible refine stop_load (t := 36) ?_) | (with_reducible refine stop_store (t := 36) ?_) | (with_reducible refine stop_load (t := 86) ?_) | (with_reducible refine stop_store (t := 86) ?_) | (with_reducible refine stop_load (t := 83) ?_) | (with_reducible refine stop_store (t := 83) ?_) | (with_reducible refine stop_load (t := 34) ?_) | (with_reducible refine stop_store (t := 34) ?_) | (with_reducible refine stop_load (t := 32) ?_) | (with_reducible refine stop_store (t := 32) ?_) | (with_reducible refine stop_build ?_) | (with_reducible refine stop_eql (t := 34) ?_) | (with_reducible refine stop_neq (t := 34) ?_) | (with_reducible refine stop_eql (t := 32) ?_) | (with_reducible refine stop_neq (t := 32) ?_) | (with_reducible refine stop_load (t := 76) ?_))
      obtain ⟨s, hs, hs16⟩ := shv_range q.id
      refine (ido_any w3.heap.size M2 D2 rc vc q s hs hs16 w8 HC.out HM2.out QI0.out).mono ?_
      rintro e w9 ⟨y, r2, v2, rfl, hy, _, him, hst, htc⟩
      replace BX := Lib.hid (htc.ex9 (HC.out.ts.tb s hs16) BX.out (HC.out.ts.lo s hs16))
      replace BEF := Lib.hid (BEF.out.other (HC.out.ts.tb s hs16) htc (DJ.out s hs16))
      replace HC := Lib.hid him
      replace HVC := Lib.hid (hst.right hs16 HVC.out)
      have YO := Lib.hid hy
      have SAME := Lib.hid (fun h0 h23 => istep_same hst h0 h23)
      clear hs hy him hst htc QI0 DJ
      go_wp2_with (first | (with_reducible refine stop_load (t := 36) ?_) | (with_reducible refine stop_store (t := 36) ?_) | (with_reducible refine stop_load (t := 86) ?_) | (with_reducible refine stop_store (t := 86) ?_) | (with_reducible refine stop_load (t := 83) ?_) | (with_reducible refine stop_store (t := 83) ?_) | (with_reducible refine stop_load (t := 34) ?_) | (with_reducible refine stop_store (t := 34) ?_) | (with_reducible refine stop_load (t := 32) ?_) | (with_reducible refine stop_store (t := 32) ?_) | (with_reducible refine stop_build ?_) | (with_reducible refine stop_eql (t := 34) ?_) | (with_reducible refine stop_neq (t := 34) ?_) | (with_reducible refine stop_eql (t := 32) ?_) | (with_reducible refine stop_neq (t := 32) ?_) | (with_reducible refine stop_load (t := 76) ?_))
      (with_reducible refine ⟨?_⟩); (with_reducible refine at_any ?_ ?_); (focus go_simp); refine fun K0 hK => st_r _ _ w9.heap.size y rfl rfl rfl YO.out (Bk.new rfl _ _) (by rfl) (fun w10 hd ho => hK _ _ ?_)
      clear hK
      have x3 : Ex w9 w10 := ho.below w9.heap.size (Nat.le_refl _) w9 (Ex.alloc w9 _)
      have c0 := (RB.cells hd).1
      replace HC := Lib.hid (HC.out.ext x3)
      replace BX := Lib.hid (Ex.trans BX.out x3)
      replace BEF := Lib.hid (BEF.out.ext x3)
      obtain ⟨h8, hg⟩ : ∃ g, g = w9.heap.size := ⟨_, rfl⟩
      rw [← hg] at c0 ⊢
      clear hd ho x3 hg
      by_cases h0 : y.why = 0
      ·rw [h0] at c0
       go_wp2_with (first | (with_reducible refine stop_load (t := 36) ?_) | (with_reducible refine stop_store (t := 36) ?_) | (with_reducible refine stop_load (t := 86) ?_) | (with_reducible refine stop_store (t := 86) ?_) | (with_reducible refine stop_load (t := 83) ?_) | (with_reducible refine stop_store (t := 83) ?_) | (with_reducible refine stop_load (t := 34) ?_) | (with_reducible refine stop_store (t := 34) ?_) | (with_reducible refine stop_load (t := 32) ?_) | (with_reducible refine stop_store (t := 32) ?_) | (with_reducible refine stop_build ?_) | (with_reducible refine stop_eql (t := 34) ?_) | (with_reducible refine stop_neq (t := 34) ?_) | (with_reducible refine stop_eql (t := 32) ?_) | (with_reducible refine stop_neq (t := 32) ?_) | (with_reducible refine stop_load (t := 76) ?_))
       go_roundw
       case rel => exact ⟨k + 1, r2, v2, by omega, by omega, by go_num, HC, HVC, BX⟩
       case measure => simp [intOf]; omega
      by_cases h23 : y.why = 23
      ·rw [h23] at c0
       go_wp2_with (first | (with_reducible refine stop_load (t := 36) ?_) | (with_reducible refine stop_store (t := 36) ?_) | (with_reducible refine stop_load (t := 86) ?_) | (with_reducible refine stop_store (t := 86) ?_) | (with_reducible refine stop_load (t := 83) ?_) | (with_reducible refine stop_store (t := 83) ?_) | (with_reducible refine stop_load (t := 34) ?_) | (with_reducible refine stop_store (t := 34) ?_) | (with_reducible refine stop_load (t := 32) ?_) | (with_reducible refine stop_store (t := 32) ?_) | (with_reducible refine stop_build ?_) | (with_reducible refine stop_eql (t := 34) ?_) | (with_reducible refine stop_neq (t := 34) ?_) | (with_reducible refine stop_eql (t := 32) ?_) | (with_reducible refine stop_neq (t := 32) ?_) | (with_reducible refine stop_load (t := 76) ?_))
       go_roundw
       case rel => exact ⟨k + 1, r2, v2, by omega, by omega, by go_num, HC, HVC, BX⟩
       case measure => simp [intOf]; omega
      have E0 := decide_eq_false h0
      have E23 := decide_eq_false h23
      obtain rfl := SAME.out h0 h23
      go_wp2_with (first | (with_reducible refine stop_load (t := 36) ?_) | (with_reducible refine stop_store (t := 36) ?_) | (with_reducible refine stop_load (t := 86) ?_) | (with_reducible refine stop_store (t := 86) ?_) | (with_reducible refine stop_load (t := 83) ?_) | (with_reducible refine stop_store (t := 83) ?_) | (with_reducible refine stop_load (t := 34) ?_) | (with_reducible refine stop_store (t := 34) ?_) | (with_reducible refine stop_load (t := 32) ?_) | (with_reducible refine stop_store (t := 32) ?_) | (with_reducible refine stop_build ?_) | (with_reducible refine stop_eql (t := 34) ?_) | (with_reducible refine stop_neq (t := 34) ?_) | (with_reducible refine stop_eql (t := 32) ?_) | (with_reducible refine stop_neq (t := 32) ?_) | (with_reducible refine stop_load (t := 76) ?_) | (with_reducible refine stop_neq (t := 45) ?_))
      (with_reducible refine ⟨?_⟩); (with_reducible refine at_any ?_ ?_); (focus go_simp); refine fun K0 hK => wp_neq_err _ _ _ rfl y.why 0 rfl rfl (hK _ _ ?_)
      clear hK
      rw [E0]
      simp only [Bool.not_false]
      go_wp2_with (first | (with_reducible refine stop_load (t := 36) ?_) | (with_reducible refine stop_store (t := 36) ?_) | (with_reducible refine stop_load (t := 86) ?_) | (with_reducible refine stop_store (t := 86) ?_) | (with_reducible refine stop_load (t := 83) ?_) | (with_reducible refine stop_store (t := 83) ?_) | (with_reducible refine stop_load (t := 34) ?_) | (with_reducible refine stop_store (t := 34) ?_) | (with_reducible refine stop_load (t := 32) ?_) | (with_reducible refine stop_store (t := 32) ?_) | (with_reducible refine stop_build ?_) | (with_reducible refine stop_eql (t := 34) ?_) | (with_reducible refine stop_neq (t := 34) ?_) | (with_reducible refine stop_eql (t := 32) ?_) | (with_reducible refine stop_neq (t := 32) ?_) | (with_reducible refine stop_load (t := 76) ?_) | (with_reducible refine stop_neq (t := 45) ?_))
      (with_reducible refine ⟨?_⟩); (with_reducible refine at_any ?_ ?_); (focus go_simp); refine fun K0 hK => wp_neq_err _ _ _ rfl y.why 23 rfl rfl (hK _ _ ?_)
      clear hK
      rw [E23]
      simp only [Bool.not_false]
      go_wp2_with (first | (with_reducible refine stop_load (t := 36) ?_) | (with_reducible refine stop_store (t := 36) ?_) | (with_reducible refine stop_load (t := 86) ?_) | (with_reducible refine stop_store (t := 86) ?_) | (with_reducible refine stop_load (t := 83) ?_) | (with_reducible refine stop_store (t := 83) ?_) | (with_reducible refine stop_load (t := 34) ?_) | (with_reducible refine stop_store (t := 34) ?_) | (with_reducible refine stop_load (t := 32) ?_) | (with_reducible refine stop_store (t := 32) ?_) | (with_reducible refine stop_build ?_) | (with_reducible refine stop_eql (t := 34) ?_) | (with_reducible refine stop_neq (t := 34) ?_) | (with_reducible refine stop_eql (t := 32) ?_) | (with_reducible refine stop_neq (t := 32) ?_) | (with_reducible refine stop_load (t := 76) ?_))
      refine (iall_any w3.heap.size M2 D2 r2 v2 w10 HC.out).mono ?_
      rintro e w11 ⟨vd, zs, rfl, hrw, hct, xx⟩
      replace HC := Lib.hid (HC.out.ext xx)
      replace BX := Lib.hid (Ex.trans BX.out xx)
      go_wp2_with (first | (with_reducible refine stop_load (t := 36) ?_) | (with_reducible refine stop_store (t := 36) ?_) | (with_reducible refine stop_load (t := 86) ?_) | (with_reducible refine stop_store (t := 86) ?_) | (with_reducible refine stop_load (t := 83) ?_) | (with_reducible refine stop_store (t := 83) ?_) | (with_reducible refine stop_load (t := 34) ?_) | (with_reducible refine stop_store (t := 34) ?_) | (with_reducible refine stop_load (t := 32) ?_) | (with_reducible refine stop_store (t := 32) ?_) | (with_reducible refine stop_build ?_) | (with_reducible refine stop_eql (t := 34) ?_) | (with_reducible refine stop_neq (t := 34) ?_) | (with_reducible refine stop_eql (t := 32) ?_) | (with_reducible refine stop_neq (t := 32) ?_) | (with_reducible refine stop_load (t := 76) ?_))
      refine (rvs_rows hrw (BEF.out.ext xx)).mono ?_
      rintro e w12 ⟨rfl, x6⟩
      rw [decide_eq_true (hct.trans BCT.out.symm)]
      replace HC := Lib.hid (HC.out.ext x6)
      replace BX := Lib.hid (Ex.trans BX.out x6)
      clear hrw hct xx x6 c0
      go_wp2_with (first | (with_reducible refine stop_load (t := 36) ?_) | (with_reducible refine stop_store (t := 36) ?_) | (with_reducible refine stop_load (t := 86) ?_) | (with_reducible refine stop_store (t := 86) ?_) | (with_reducible refine stop_load (t := 83) ?_) | (with_reducible refine stop_store (t := 83) ?_) | (with_reducible refine stop_load (t := 34) ?_) | (with_reducible refine stop_store (t := 34) ?_) | (with_reducible refine stop_load (t := 32) ?_) | (with_reducible refine stop_store (t := 32) ?_) | (with_reducible refine stop_build ?_) | (with_reducible refine stop_eql (t := 34) ?_) | (with_reducible refine stop_neq (t := 34) ?_) | (with_reducible refine stop_eql (t := 32) ?_) | (with_reducible refine stop_neq (t := 32) ?_) | (with_reducible refine stop_load (t := 76) ?_))
      go_roundw
      case rel => exact ⟨k + 1, r2, v2, by omega, by omega, by go_num, HC, HVC, BX⟩
      case measure => simp [intOf]; omega
     ·by_cases hn2 : k < n2
      ·have q2 : ¬ (k : Int) < 20 := by omega
       have q1 : (k : Int) < (n2 : Int) := by omega
       go_wp2_with (first | (with_reducible refine stop_load (t := 36) ?_) | (with_reducible refine stop_store (t := 36) ?_) | (with_reducible refine stop_load (t := 86) ?_) | (with_reducible refine stop_store (t := 86) ?_) | (with_reducible refine stop_load (t := 83) ?_) | (with_reducible refine stop_store (t := 83) ?_) | (with_reducible refine stop_load (t := 34) ?_) | (with_reducible refine stop_store (t := 34) ?_) | (with_reducible refine stop_load (t := 32) ?_) | (with_reducible refine stop_store (t := 32) ?_) | (with_reducible refine stop_build ?_) | (with_reducible refine stop_eql (t := 34) ?_) | (with_reducible refine stop_neq (t := 34) ?_) | (with_reducible refine stop_eql (t := 32) ?_) | (with_reducible refine stop_neq (t := 32) ?_) | (with_reducible refine stop_load (t := 76) ?_))
       refine (iall_any w.heap.size M D r v wr (HIM.out.ext BX.out)).mono ?_
       rintro e w7 ⟨vb, ys, rfl, hrw, hct, xx⟩
       go_wp2_with (first | (with_reducible refine stop_load (t := 36) ?_) | (with_reducible refine stop_store (t := 36) ?_) | (with_reducible refine stop_load (t := 86) ?_) | (with_reducible refine stop_store (t := 86) ?_) | (with_reducible refine stop_load (t := 83) ?_) | (with_reducible refine stop_store (t := 83) ?_) | (with_reducible refine stop_load (t := 34) ?_) | (with_reducible refine stop_store (t := 34) ?_) | (with_reducible refine stop_load (t := 32) ?_) | (with_reducible refine stop_store (t := 32) ?_) | (with_reducible refine stop_build ?_) | (with_reducible refine stop_eql (t := 34) ?_) | (with_reducible refine stop_neq (t := 34) ?_) | (with_reducible refine stop_eql (t := 32) ?_) | (with_reducible refine stop_neq (t := 32) ?_) | (with_reducible refine stop_load (t := 76) ?_))
       refine (rvs_rows hrw (WAS.out.ext (Ex.trans BX.out xx))).mono ?_
       rintro e w8 ⟨rfl, x6⟩
       rw [decide_eq_true (hct.trans WCT.out.symm)]
       have BZ := Lib.hid (Ex.trans BW.out (Ex.trans BX.out (Ex.trans xx x6)))
       clear hrw hct xx x6
       go_wp2_with (first | (with_reducible refine stop_load (t := 36) ?_) | (with_reducible refine stop_store (t := 36) ?_) | (with_reducible refine stop_load (t := 86) ?_) | (with_reducible refine stop_store (t := 86) ?_) | (with_reducible refine stop_load (t := 83) ?_) | (with_reducible refine stop_store (t := 83) ?_) | (with_reducible refine stop_load (t := 34) ?_) | (with_reducible refine stop_store (t := 34) ?_) | (with_reducible refine stop_load (t := 32) ?_) | (with_reducible refine stop_store (t := 32) ?_) | (with_reducible refine stop_build ?_) | (with_reducible refine stop_eql (t := 34) ?_) | (with_reducible refine stop_neq (t := 34) ?_) | (with_reducible refine stop_eql (t := 32) ?_) | (with_reducible refine stop_neq (t := 32) ?_) | (with_reducible refine stop_load (t := 76) ?_))
       refine (known23 w8).mono ?_
       rintro e w9 ⟨rfl, xx⟩
       replace BZ := Lib.hid (Ex.trans BZ.out xx)
       clear xx
       go_wp2_with fail
       go_ret
       exact ⟨rfl, BZ.out⟩
      have q1 : ¬ (k : Int) < (n2 : Int) := by omega
      go_wp2_with (first | (with_reducible refine stop_load (t := 36) ?_) | (with_reducible refine stop_store (t := 36) ?_) | (with_reducible refine stop_load (t := 86) ?_) | (with_reducible refine stop_store (t := 86) ?_) | (with_reducible refine stop_load (t := 83) ?_) | (with_reducible refine stop_store (t := 83) ?_) | (with_reducible refine stop_load (t := 34) ?_) | (with_reducible refine stop_store (t := 34) ?_) | (with_reducible refine stop_load (t := 32) ?_) | (with_reducible refine stop_store (t := 32) ?_) | (with_reducible refine stop_build ?_) | (with_reducible refine stop_eql (t := 34) ?_) | (with_reducible refine stop_neq (t := 34) ?_) | (with_reducible refine stop_eql (t := 32) ?_) | (with_reducible refine stop_neq (t := 32) ?_) | (with_reducible refine stop_load (t := 76) ?_))
      refine (iall_any w.heap.size M D r v wr (HIM.out.ext BX.out)).mono ?_
      rintro e w7 ⟨vb, ys, rfl, hrw, hct, xx⟩
      go_wp2_with (first | (with_reducible refine stop_load (t := 36) ?_) | (with_reducible refine stop_store (t := 36) ?_) | (with_reducible refine stop_load (t := 86) ?_) | (with_reducible refine stop_store (t := 86) ?_) | (with_reducible refine stop_load (t := 83) ?_) | (with_reducible refine stop_store (t := 83) ?_) | (with_reducible refine stop_load (t := 34) ?_) | (with_reducible refine stop_store (t := 34) ?_) | (with_reducible refine stop_load (t := 32) ?_) | (with_reducible refine stop_store (t := 32) ?_) | (with_reducible refine stop_build ?_) | (with_reducible refine stop_eql (t := 34) ?_) | (with_reducible refine stop_neq (t := 34) ?_) | (with_reducible refine stop_eql (t := 32) ?_) | (with_reducible refine stop_neq (t := 32) ?_) | (with_reducible refine stop_load (t := 76) ?_))
      refine (rvs_rows hrw (WAS.out.ext (Ex.trans BX.out xx))).mono ?_
      rintro e w8 ⟨rfl, x6⟩
      rw [decide_eq_true (hct.trans WCT.out.symm)]
      have BZ := Lib.hid (Ex.trans BW.out (Ex.trans BX.out (Ex.trans xx x6)))
      clear hrw hct xx x6
      go_wp2_with (first | (with_reducible refine stop_load (t := 36) ?_) | (with_reducible refine stop_store (t := 36) ?_) | (with_reducible refine stop_load (t := 86) ?_) | (with_reducible refine stop_store (t := 86) ?_) | (with_reducible refine stop_load (t := 83) ?_) | (with_reducible refine stop_store (t := 83) ?_) | (with_reducible refine stop_load (t := 34) ?_) | (with_reducible refine stop_store (t := 34) ?_) | (with_reducible refine stop_load (t := 32) ?_) | (with_reducible refine stop_store (t := 32) ?_) | (with_reducible refine stop_build ?_) | (with_reducible refine stop_eql (t := 34) ?_) | (with_reducible refine stop_neq (t := 34) ?_) | (with_reducible refine stop_eql (t := 32) ?_) | (with_reducible refine stop_neq (t := 32) ?_) | (with_reducible refine stop_load (t := 76) ?_))
      refine (known23 w8).mono ?_
      rintro e w9 ⟨rfl, xx⟩
      replace BZ := Lib.hid (Ex.trans BZ.out xx)
      clear xx
      go_wp2_with fail
      go_ret
      exact ⟨rfl, BZ.out⟩
   have q1 : ¬ (k : Int) < (n : Int) := by omega
   go_wp2_with (first | (with_reducible refine stop_load (t := 36) ?_) | (with_reducible refine stop_store (t := 36) ?_) | (with_reducible refine stop_load (t := 86) ?_) | (with_reducible refine stop_store (t := 86) ?_) | (with_reducible refine stop_load (t := 83) ?_) | (with_reducible refine stop_store (t := 83) ?_) | (with_reducible refine stop_load (t := 34) ?_) | (with_reducible refine stop_store (t := 34) ?_) | (with_reducible refine stop_load (t := 32) ?_) | (with_reducible refine stop_store (t := 32) ?_) | (with_reducible refine stop_build ?_) | (with_reducible refine stop_eql (t := 34) ?_) | (with_reducible refine stop_neq (t := 34) ?_) | (with_reducible refine stop_eql (t := 32) ?_) | (with_reducible refine stop_neq (t := 32) ?_) | (with_reducible refine stop_load (t := 76) ?_))
   clear q1
   refine (iall_any w.heap.size M D r v wr HIM.out).mono ?_
   rintro e w3 ⟨va, xs, rfl, hrw, hct, xx⟩
   have WAS := Lib.hid hrw
   have WCT := Lib.hid hct
   replace HIM := Lib.hid (HIM.out.ext xx)
   replace BW := Lib.hid (Ex.trans BW.out xx)
   clear hrw hct xx
   go_wp2_with (first | (with_reducible refine stop_load (t := 36) ?_) | (with_reducible refine stop_store (t := 36) ?_) | (with_reducible refine stop_load (t := 86) ?_) | (with_reducible refine stop_store (t := 86) ?_) | (with_reducible refine stop_load (t := 83) ?_) | (with_reducible refine stop_store (t := 83) ?_) | (with_reducible refine stop_load (t := 34) ?_) | (with_reducible refine stop_store (t := 34) ?_) | (with_reducible refine stop_load (t := 32) ?_) | (with_reducible refine stop_store (t := 32) ?_) | (with_reducible refine stop_build ?_) | (with_reducible refine stop_eql (t := 34) ?_) | (with_reducible refine stop_neq (t := 34) ?_) | (with_reducible refine stop_eql (t := 32) ?_) | (with_reducible refine stop_neq (t := 32) ?_) | (with_reducible refine stop_load (t := 76) ?_))
   refine (icopy_any w.heap.size M D r v (HIM.out.rising HV.out) w3 HIM.out).mono ?_
   rintro e w4 ⟨M2, D2, rc, vc, rfl, h1, h2, h3, h4⟩
   have HC := Lib.hid h1
   have HM2 := Lib.hid h2
   have HVC := Lib.hid (RightV.ct h3 HV.out)
   have HCT := Lib.hid ((allV_ct h3 16 (Nat.le_refl _)).trans WCT.out.symm)
   have BX := Lib.hid h4
   clear h1 h2 h3 h4
   go_wp2_with (first | (with_reducible refine stop_load (t := 36) ?_) | (with_reducible refine stop_store (t := 36) ?_) | (with_reducible refine stop_load (t := 86) ?_) | (with_reducible refine stop_store (t := 86) ?_) | (with_reducible refine stop_load (t := 83) ?_) | (with_reducible refine stop_store (t := 83) ?_) | (with_reducible refine stop_load (t := 34) ?_) | (with_reducible refine stop_store (t := 34) ?_) | (with_reducible refine stop_load (t := 32) ?_) | (with_reducible refine stop_store (t := 32) ?_) | (with_reducible refine stop_build ?_) | (with_reducible refine stop_eql (t := 34) ?_) | (with_reducible refine stop_neq (t := 34) ?_) | (with_reducible refine stop_eql (t := 32) ?_) | (with_reducible refine stop_neq (t := 32) ?_) | (with_reducible refine stop_load (t := 76) ?_))
   refine (iall_any w3.heap.size M2 D2 rc vc w4 HC.out).mono ?_
   rintro e w5 ⟨vb, ys, rfl, hrw, hct, xx⟩
   replace HC := Lib.hid (HC.out.ext xx)
   replace BX := Lib.hid (Ex.trans BX.out xx)
   go_wp2_with (first | (with_reducible refine stop_load (t := 36) ?_) | (with_reducible refine stop_store (t := 36) ?_) | (with_reducible refine stop_load (t := 86) ?_) | (with_reducible refine stop_store (t := 86) ?_) | (with_reducible refine stop_load (t := 83) ?_) | (with_reducible refine stop_store (t := 83) ?_) | (with_reducible refine stop_load (t := 34) ?_) | (with_reducible refine stop_store (t := 34) ?_) | (with_reducible refine stop_load (t := 32) ?_) | (with_reducible refine stop_store (t := 32) ?_) | (with_reducible refine stop_build ?_) | (with_reducible refine stop_eql (t := 34) ?_) | (with_reducible refine stop_neq (t := 34) ?_) | (with_reducible refine stop_eql (t := 32) ?_) | (with_reducible refine stop_neq (t := 32) ?_) | (with_reducible refine stop_load (t := 76) ?_))
   refine (rvs_rows hrw (WAS.out.ext BX.out)).mono ?_
   rintro e w6 ⟨rfl, x6⟩
   rw [decide_eq_true (hct.trans HCT.out)]
   replace HC := Lib.hid (HC.out.ext x6)
   replace BX := Lib.hid (Ex.trans BX.out x6)
   clear hrw hct xx x6
   go_wp2_with (first | (with_reducible refine stop_load (t := 36) ?_) | (with_reducible refine stop_store (t := 36) ?_) | (with_reducible refine stop_load (t := 86) ?_) | (with_reducible refine stop_store (t := 86) ?_) | (with_reducible refine stop_load (t := 83) ?_) | (with_reducible refine stop_store (t := 83) ?_) | (with_reducible refine stop_load (t := 34) ?_) | (with_reducible refine stop_store (t := 34) ?_) | (with_reducible refine stop_load (t := 32) ?_) | (with_reducible refine stop_store (t := 32) ?_) | (with_reducible refine stop_build ?_) | (with_reducible refine stop_eql (t := 34) ?_) | (with_reducible refine stop_neq (t := 34) ?_) | (with_reducible refine stop_eql (t := 32) ?_) | (with_reducible refine stop_neq (t := 32) ?_) | (with_reducible refine stop_load (t := 76) ?_))
   go_loopw [9] (fun i wr => ∃ (k : Nat) (rc : Nat → Value) (vc : Nat → List Vt), k ≤ n2 ∧ k ≤ 20 ∧ i = .int .i64 k ∧ Hid (IM wr w3.heap.size M2 D2 rc vc) ∧ Hid (RightV vc) ∧ Hid (Ex w3 wr)) (fun i _ => n2 - (intOf i).toNat)
   case atStart => exact ⟨0, rc, vc, by omega, by omega, rfl, HC, HVC, BX⟩
   case round =>
    clear HC HVC HCT BX
    clear hk
    obtain ⟨k, rc, vc, hk, hk20, rfl, HC, HVC, BX⟩ := hrel
    by_cases hlt2 : k < n2 ∧ k < 20
    ·have BZ := Lib.hid (Ex.trans BW.out BX.out)
     obtain ⟨h1, h2⟩ := hlt2
     obtain ⟨ab, ofs, rfl, ha, hc⟩ := HIN2.out.read (by rw [← HN2.out]; omega)
     obtain ⟨x, hx⟩ : ∃ x, o[k]? = some x := ⟨_, List.getElem?_eq_getElem (by rw [← HN2.out]; exact h1)⟩
     have XI := Lib.hid ((HIN2.out.ins k x hx).ext BZ.out)
     have XR : Hid (wr.rangeAt ab (ofs + k * 8) x.C) := Lib.hid (fun j u hu => (Below.cell (p := ⟨ab, ofs + k * 8 + j, none⟩) BZ.out ha).trans (hc k x hx j u hu))
     have HAB : Hid (ab < wr.heap.size) := Lib.hid (Nat.lt_of_lt_of_le ha BZ.out.sz)
     clear hc hx ha
     have q0 : (0 : Int) ≤ (k : Int) := by omega
     have q1 : (k : Int) < (n2 : Int) := by omega
     have q2 : (k : Int) < 20 := by omega
     clear BZ
     go_wp2_with (first | (with_reducible refine stop_load (t := 36) ?_) | (with_reducible refine stop_store (t := 36) ?_) | (with_reducible refine stop_load (t := 86) ?_) | (with_reducible refine stop_store (t := 86) ?_) | (with_reducible refine stop_load (t := 83) ?_) | (with_reducible refine stop_store (t := 83) ?_) | (with_reducible refine stop_load (t := 34) ?_) | (with_reducible refine stop_store (t := 34) ?_) | (with_reducible refine stop_load (t := 32) ?_) | (with_reducible refine stop_store (t := 32) ?_) | (with_reducible refine stop_build ?_) | (with_reducible refine stop_eql (t := 34) ?_) | (with_reducible refine stop_neq (t := 34) ?_) | (with_reducible refine stop_eql (t := 32) ?_) | (with_reducible refine stop_neq (t := 32) ?_) | (with_reducible refine stop_load (t := 76) ?_))
     refine (iall_any w3.heap.size M2 D2 rc vc wr HC.out).mono ?_
     rintro e w7 ⟨vb, ys, rfl, hrw, hct, xx⟩
     have BEF := Lib.hid hrw
     have DJ := Lib.hid (fun s hs => HC.out.djn (s := s) hrw hs)
     have BCT := Lib.hid hct
     replace HC := Lib.hid (HC.out.ext xx)
     replace BX := Lib.hid (Ex.trans BX.out xx)
     replace XI := Lib.hid (XI.out.ext xx)
     have XR7 : Hid (w7.rangeAt ab (ofs + k * 8) x.C) := Lib.hid (fun j u hu => (Below.cell (p := ⟨ab, ofs + k * 8 + j, none⟩) xx HAB.out).trans (XR.out j u hu))
     clear XR HAB
     clear hrw hct xx
     go_wp2_with (first | (with_reducible refine stop_load (t := 36) ?_) | (with_reducible refine stop_store (t := 36) ?_) | (with_reducible refine stop_load (t := 86) ?_) | (with_reducible refine stop_store (t := 86) ?_) | (with_reducible refine stop_load (t := 83) ?_) | (with_reducible refine stop_store (t := 83) ?_) | (with_reducible refine stop_load (t := 34) ?_) | (with_reducible refine stop_store (t := 34) ?_) | (with_reducible refine stop_load (t := 32) ?_) | (with_reducible refine stop_store (t := 32) ?_) | (with_reducible refine stop_build ?_) | (with_reducible refine stop_eql (t := 34) ?_) | (with_reducible refine stop_neq (t := 34) ?_) | (with_reducible refine stop_eql (t := 32) ?_) | (with_reducible refine stop_neq (t := 32) ?_) | (with_reducible refine stop_load (t := 76) ?_))
     (with_reducible refine ⟨?_⟩); (with_reducible refine at_any ?_ ?_); (focus go_simp); refine fun K0 hK => ld_k _ ab (ofs + k * 8) x rfl rfl XR7.out (hK _ _ ?_)
     clear hK
     go_wp2_with (first | (with_reducible refine stop_load (t := 36) ?_) | (with_reducible refine stop_store (t := 36) ?_) | (with_reducible refine stop_load (t := 86) ?_) | (with_reducible refine stop_store (t := 86) ?_) | (with_reducible refine stop_load (t := 83) ?_) | (with_reducible refine stop_store (t := 83) ?_) | (with_reducible refine stop_load (t := 34) ?_) | (with_reducible refine stop_store (t := 34) ?_) | (with_reducible refine stop_load (t := 32) ?_) | (with_reducible refine stop_store (t := 32) ?_) | (with_reducible refine stop_build ?_) | (with_reducible refine stop_eql (t := 34) ?_) | (with_reducible refine stop_neq (t := 34) ?_) | (with_reducible refine stop_eql (t := 32) ?_) | (with_reducible refine stop_neq (t := 32) ?_) | (with_reducible refine stop_load (t := 76) ?_))
     refine (req_any x w7 XI.out).mono ?_
     rintro e w8 ⟨q, rfl, hqi, hqr, xx⟩
     have QI0 := Lib.hid hqi
     replace HC := Lib.hid (HC.out.ext xx)
     replace BX := Lib.hid (Ex.trans BX.out xx)
     replace BEF := Lib.hid (BEF.out.ext xx)
     clear XI XR7 hqi hqr xx
     go_wp2_with (first | (with_reducible refine stop_load (t := 36) ?_) | (with_reducible refine stop_store (t := 36) ?_) | (with_reducible refine stop_load (t := 86) ?_) | (with_reducible refine stop_store (t := 86) ?_) | (with_reducible refine stop_load (t := 83) ?_) | (with_reducible refine stop_store (t := 83) ?_) | (with_reducible refine stop_load (t := 34) ?_) | (with_reducible refine stop_store (t := 34) ?_) | (with_reducible refine stop_load (t := 32) ?_) | (with_reducible refine stop_store (t := 32) ?_) | (with_reducible refine stop_build ?_) | (with_reducible refine stop_eql (t := 34) ?_) | (with_reducible refine stop_neq (t := 34) ?_) | (with_reducible refine stop_eql (t := 32) ?_) | (with_reducible refine stop_neq (t := 32) ?_) | (with_reducible refine stop_load (t := 76) ?_))
     obtain ⟨s, hs, hs16⟩ := shv_range q.id
     refine (ido_any w3.heap.size M2 D2 rc vc q s hs hs16 w8 HC.out HM2.out QI0.out).mono ?_
     rintro e w9 ⟨y, r2, v2, rfl, hy, _, him, hst, htc⟩
     replace BX := Lib.hid (htc.ex9 (HC.out.ts.tb s hs16) BX.out (HC.out.ts.lo s hs16))
     replace BEF := Lib.hid (BEF.out.other (HC.out.ts.tb s hs16) htc (DJ.out s hs16))
     replace HC := Lib.hid him
     replace HVC := Lib.hid (hst.right hs16 HVC.out)
     have YO := Lib.hid hy
     have SAME := Lib.hid (fun h0 h23 => istep_same hst h0 h23)
     clear hs hy him hst htc QI0 DJ
     go_wp2_with (first | (with_reducible refine stop_load (t := 36) ?_) | (with_reducible refine stop_store (t := 36) ?_) | (with_reducible refine stop_load (t := 86) ?_) | (with_reducible refine stop_store (t := 86) ?_) | (with_reducible refine stop_load (t := 83) ?_) | (with_reducible refine stop_store (t := 83) ?_) | (with_reducible refine stop_load (t := 34) ?_) | (with_reducible refine stop_store (t := 34) ?_) | (with_reducible refine stop_load (t := 32) ?_) | (with_reducible refine stop_store (t := 32) ?_) | (with_reducible refine stop_build ?_) | (with_reducible refine stop_eql (t := 34) ?_) | (with_reducible refine stop_neq (t := 34) ?_) | (with_reducible refine stop_eql (t := 32) ?_) | (with_reducible refine stop_neq (t := 32) ?_) | (with_reducible refine stop_load (t := 76) ?_))
     (with_reducible refine ⟨?_⟩); (with_reducible refine at_any ?_ ?_); (focus go_simp); refine fun K0 hK => st_r _ _ w9.heap.size y rfl rfl rfl YO.out (Bk.new rfl _ _) (by rfl) (fun w10 hd ho => hK _ _ ?_)
     clear hK
     have x3 : Ex w9 w10 := ho.below w9.heap.size (Nat.le_refl _) w9 (Ex.alloc w9 _)
     have c0 := (RB.cells hd).1
     replace HC := Lib.hid (HC.out.ext x3)
     replace BX := Lib.hid (Ex.trans BX.out x3)
     replace BEF := Lib.hid (BEF.out.ext x3)
     obtain ⟨h8, hg⟩ : ∃ g, g = w9.heap.size := ⟨_, rfl⟩
     rw [← hg] at c0 ⊢
     clear hd ho x3 hg
     by_cases h0 : y.why = 0
     ·rw [h0] at c0
      go_wp2_with (first | (with_reducible refine stop_load (t := 36) ?_) | (with_reducible refine stop_store (t := 36) ?_) | (with_reducible refine stop_load (t := 86) ?_) | (with_reducible refine stop_store (t := 86) ?_) | (with_reducible refine stop_load (t := 83) ?_) | (with_reducible refine stop_store (t := 83) ?_) | (with_reducible refine stop_load (t := 34) ?_) | (with_reducible refine stop_store (t := 34) ?_) | (with_reducible refine stop_load (t := 32) ?_) | (with_reducible refine stop_store (t := 32) ?_) | (with_reducible refine stop_build ?_) | (with_reducible refine stop_eql (t := 34) ?_) | (with_reducible refine stop_neq (t := 34) ?_) | (with_reducible refine stop_eql (t := 32) ?_) | (with_reducible refine stop_neq (t := 32) ?_) | (with_reducible refine stop_load (t := 76) ?_))
      go_roundw
      case rel => exact ⟨k + 1, r2, v2, by omega, by omega, by go_num, HC, HVC, BX⟩
      case measure => simp [intOf]; omega
     by_cases h23 : y.why = 23
     ·rw [h23] at c0
      go_wp2_with (first | (with_reducible refine stop_load (t := 36) ?_) | (with_reducible refine stop_store (t := 36) ?_) | (with_reducible refine stop_load (t := 86) ?_) | (with_reducible refine stop_store (t := 86) ?_) | (with_reducible refine stop_load (t := 83) ?_) | (with_reducible refine stop_store (t := 83) ?_) | (with_reducible refine stop_load (t := 34) ?_) | (with_reducible refine stop_store (t := 34) ?_) | (with_reducible refine stop_load (t := 32) ?_) | (with_reducible refine stop_store (t := 32) ?_) | (with_reducible refine stop_build ?_) | (with_reducible refine stop_eql (t := 34) ?_) | (with_reducible refine stop_neq (t := 34) ?_) | (with_reducible refine stop_eql (t := 32) ?_) | (with_reducible refine stop_neq (t := 32) ?_) | (with_reducible refine stop_load (t := 76) ?_))
      go_roundw
      case rel => exact ⟨k + 1, r2, v2, by omega, by omega, by go_num, HC, HVC, BX⟩
      case measure => simp [intOf]; omega
     have E0 := decide_eq_false h0
     have E23 := decide_eq_false h23
     obtain rfl := SAME.out h0 h23
     go_wp2_with (first | (with_reducible refine stop_load (t := 36) ?_) | (with_reducible refine stop_store (t := 36) ?_) | (with_reducible refine stop_load (t := 86) ?_) | (with_reducible refine stop_store (t := 86) ?_) | (with_reducible refine stop_load (t := 83) ?_) | (with_reducible refine stop_store (t := 83) ?_) | (with_reducible refine stop_load (t := 34) ?_) | (with_reducible refine stop_store (t := 34) ?_) | (with_reducible refine stop_load (t := 32) ?_) | (with_reducible refine stop_store (t := 32) ?_) | (with_reducible refine stop_build ?_) | (with_reducible refine stop_eql (t := 34) ?_) | (with_reducible refine stop_neq (t := 34) ?_) | (with_reducible refine stop_eql (t := 32) ?_) | (with_reducible refine stop_neq (t := 32) ?_) | (with_reducible refine stop_load (t := 76) ?_) | (with_reducible refine stop_neq (t := 45) ?_))
     (with_reducible refine ⟨?_⟩); (with_reducible refine at_any ?_ ?_); (focus go_simp); refine fun K0 hK => wp_neq_err _ _ _ rfl y.why 0 rfl rfl (hK _ _ ?_)
     clear hK
     rw [E0]
     simp only [Bool.not_false]
     go_wp2_with (first | (with_reducible refine stop_load (t := 36) ?_) | (with_reducible refine stop_store (t := 36) ?_) | (with_reducible refine stop_load (t := 86) ?_) | (with_reducible refine stop_store (t := 86) ?_) | (with_reducible refine stop_load (t := 83) ?_) | (with_reducible refine stop_store (t := 83) ?_) | (with_reducible refine stop_load (t := 34) ?_) | (with_reducible refine stop_store (t := 34) ?_) | (with_reducible refine stop_load (t := 32) ?_) | (with_reducible refine stop_store (t := 32) ?_) | (with_reducible refine stop_build ?_) | (with_reducible refine stop_eql (t := 34) ?_) | (with_reducible refine stop_neq (t := 34) ?_) | (with_reducible refine stop_eql (t := 32) ?_) | (with_reducible refine stop_neq (t := 32) ?_) | (with_reducible refine stop_load (t := 76) ?_) | (with_reducible refine stop_neq (t := 45) ?_))
     (with_reducible refine ⟨?_⟩); (with_reducible refine at_any ?_ ?_); (focus go_simp); refine fun K0 hK => wp_neq_err _ _ _ rfl y.why 23 rfl rfl (hK _ _ ?_)
     clear hK
     rw [E23]
     simp only [Bool.not_false]
     go_wp2_with (first | (with_reducible refine stop_load (t := 36) ?_) | (with_reducible refine stop_store (t := 36) ?_) | (with_reducible refine stop_load (t := 86) ?_) | (with_reducible refine stop_store (t := 86) ?_) | (with_reducible refine stop_load (t := 83) ?_) | (with_reducible refine stop_store (t := 83) ?_) | (with_reducible refine stop_load (t := 34) ?_) | (with_reducible refine stop_store (t := 34) ?_) | (with_reducible refine stop_load (t := 32) ?_) | (with_reducible refine stop_store (t := 32) ?_) | (with_reducible refine stop_build ?_) | (with_reducible refine stop_eql (t := 34) ?_) | (with_reducible refine stop_neq (t := 34) ?_) | (with_reducible refine stop_eql (t := 32) ?_) | (with_reducible refine stop_neq (t := 32) ?_) | (with_reducible refine stop_load (t := 76) ?_))
     refine (iall_any w3.heap.size M2 D2 r2 v2 w10 HC.out).mono ?_
     rintro e w11 ⟨vd, zs, rfl, hrw, hct, xx⟩
     replace HC := Lib.hid (HC.out.ext xx)
     replace BX := Lib.hid (Ex.trans BX.out xx)
     go_wp2_with (first | (with_reducible refine stop_load (t := 36) ?_) | (with_reducible refine stop_store (t := 36) ?_) | (with_reducible refine stop_load (t := 86) ?_) | (with_reducible refine stop_store (t := 86) ?_) | (with_reducible refine stop_load (t := 83) ?_) | (with_reducible refine stop_store (t := 83) ?_) | (with_reducible refine stop_load (t := 34) ?_) | (with_reducible refine stop_store (t := 34) ?_) | (with_reducible refine stop_load (t := 32) ?_) | (with_reducible refine stop_store (t := 32) ?_) | (with_reducible refine stop_build ?_) | (with_reducible refine stop_eql (t := 34) ?_) | (with_reducible refine stop_neq (t := 34) ?_) | (with_reducible refine stop_eql (t := 32) ?_) | (with_reducible refine stop_neq (t := 32) ?_) | (with_reducible refine stop_load (t := 76) ?_))
     refine (rvs_rows hrw (BEF.out.ext xx)).mono ?_
     rintro e w12 ⟨rfl, x6⟩
     rw [decide_eq_true (hct.trans BCT.out.symm)]
     replace HC := Lib.hid (HC.out.ext x6)
     replace BX := Lib.hid (Ex.trans BX.out x6)
     clear hrw hct xx x6 c0
     go_wp2_with (first | (with_reducible refine stop_load (t := 36) ?_) | (with_reducible refine stop_store (t := 36) ?_) | (with_reducible refine stop_load (t := 86) ?_) | (with_reducible refine stop_store (t := 86) ?_) | (with_reducible refine stop_load (t := 83) ?_) | (with_reducible refine stop_store (t := 83) ?_) | (with_reducible refine stop_load (t := 34) ?_) | (with_reducible refine stop_store (t := 34) ?_) | (with_reducible refine stop_load (t := 32) ?_) | (with_reducible refine stop_store (t := 32) ?_) | (with_reducible refine stop_build ?_) | (with_reducible refine stop_eql (t := 34) ?_) | (with_reducible refine stop_neq (t := 34) ?_) | (with_reducible refine stop_eql (t := 32) ?_) | (with_reducible refine stop_neq (t := 32) ?_) | (with_reducible refine stop_load (t := 76) ?_))
     go_roundw
     case rel => exact ⟨k + 1, r2, v2, by omega, by omega, by go_num, HC, HVC, BX⟩
     case measure => simp [intOf]; omega
    ·by_cases hn2 : k < n2
     ·have q2 : ¬ (k : Int) < 20 := by omega
      have q1 : (k : Int) < (n2 : Int) := by omega
      go_wp2_with (first | (with_reducible refine stop_load (t := 36) ?_) | (with_reducible refine stop_store (t := 36) ?_) | (with_reducible refine stop_load (t := 86) ?_) | (with_reducible refine stop_store (t := 86) ?_) | (with_reducible refine stop_load (t := 83) ?_) | (with_reducible refine stop_store (t := 83) ?_) | (with_reducible refine stop_load (t := 34) ?_) | (with_reducible refine stop_store (t := 34) ?_) | (with_reducible refine stop_load (t := 32) ?_) | (with_reducible refine stop_store (t := 32) ?_) | (with_reducible refine stop_build ?_) | (with_reducible refine stop_eql (t := 34) ?_) | (with_reducible refine stop_neq (t := 34) ?_) | (with_reducible refine stop_eql (t := 32) ?_) | (with_reducible refine stop_neq (t := 32) ?_) | (with_reducible refine stop_load (t := 76) ?_))
      refine (iall_any w.heap.size M D r v wr (HIM.out.ext BX.out)).mono ?_
      rintro e w7 ⟨vb, ys, rfl, hrw, hct, xx⟩
      go_wp2_with (first | (with_reducible refine stop_load (t := 36) ?_) | (with_reducible refine stop_store (t := 36) ?_) | (with_reducible refine stop_load (t := 86) ?_) | (with_reducible refine stop_store (t := 86) ?_) | (with_reducible refine stop_load (t := 83) ?_) | (with_reducible refine stop_store (t := 83) ?_) | (with_reducible refine stop_load (t := 34) ?_) | (with_reducible refine stop_store (t := 34) ?_) | (with_reducible refine stop_load (t := 32) ?_) | (with_reducible refine stop_store (t := 32) ?_) | (with_reducible refine stop_build ?_) | (with_reducible refine stop_eql (t := 34) ?_) | (with_reducible refine stop_neq (t := 34) ?_) | (with_reducible refine stop_eql (t := 32) ?_) | (with_reducible refine stop_neq (t := 32) ?_) | (with_reducible refine stop_load (t := 76) ?_))
      refine (rvs_rows hrw (WAS.out.ext (Ex.trans BX.out xx))).mono ?_
      rintro e w8 ⟨rfl, x6⟩
      rw [decide_eq_true (hct.trans WCT.out.symm)]
      have BZ := Lib.hid (Ex.trans BW.out (Ex.trans BX.out (Ex.trans xx x6)))
      clear hrw hct xx x6
      go_wp2_with (first | (with_reducible refine stop_load (t := 36) ?_) | (with_reducible refine stop_store (t := 36) ?_) | (with_reducible refine stop_load (t := 86) ?_) | (with_reducible refine stop_store (t := 86) ?_) | (with_reducible refine stop_load (t := 83) ?_) | (with_reducible refine stop_store (t := 83) ?_) | (with_reducible refine stop_load (t := 34) ?_) | (with_reducible refine stop_store (t := 34) ?_) | (with_reducible refine stop_load (t := 32) ?_) | (with_reducible refine stop_store (t := 32) ?_) | (with_reducible refine stop_build ?_) | (with_reducible refine stop_eql (t := 34) ?_) | (with_reducible refine stop_neq (t := 34) ?_) | (with_reducible refine stop_eql (t := 32) ?_) | (with_reducible refine stop_neq (t := 32) ?_) | (with_reducible refine stop_load (t := 76) ?_))
      refine (known23 w8).mono ?_
      rintro e w9 ⟨rfl, xx⟩
      replace BZ := Lib.hid (Ex.trans BZ.out xx)
      clear xx
      go_wp2_with fail
      go_ret
      exact ⟨rfl, BZ.out⟩
     have q1 : ¬ (k : Int) < (n2 : Int) := by omega
     go_wp2_with (first | (with_reducible refine stop_load (t := 36) ?_) | (with_reducible refine stop_store (t := 36) ?_) | (with_reducible refine stop_load (t := 86) ?_) | (with_reducible refine stop_store (t := 86) ?_) | (with_reducible refine stop_load (t := 83) ?_) | (with_reducible refine stop_store (t := 83) ?_) | (with_reducible refine stop_load (t := 34) ?_) | (with_reducible refine stop_store (t := 34) ?_) | (with_reducible refine stop_load (t := 32) ?_) | (with_reducible refine stop_store (t := 32) ?_) | (with_reducible refine stop_build ?_) | (with_reducible refine stop_eql (t := 34) ?_) | (with_reducible refine stop_neq (t := 34) ?_) | (with_reducible refine stop_eql (t := 32) ?_) | (with_reducible refine stop_neq (t := 32) ?_) | (with_reducible refine stop_load (t := 76) ?_))
     refine (iall_any w.heap.size M D r v wr (HIM.out.ext BX.out)).mono ?_
     rintro e w7 ⟨vb, ys, rfl, hrw, hct, xx⟩
     go_wp2_with (first | (with_reducible refine stop_load (t := 36) ?_) | (with_reducible refine stop_store (t := 36) ?_) | (with_reducible refine stop_load (t := 86) ?_) | (with_reducible refine stop_store (t := 86) ?_) | (with_reducible refine stop_load (t := 83) ?_) | (with_reducible refine stop_store (t := 83) ?_) | (with_reducible refine stop_load (t := 34) ?_) | (with_reducible refine stop_store (t := 34) ?_) | (with_reducible refine stop_load (t := 32) ?_) | (with_reducible refine stop_store (t := 32) ?_) | (with_reducible refine stop_build ?_) | (with_reducible refine stop_eql (t := 34) ?_) | (with_reducible refine stop_neq (t := 34) ?_) | (with_reducible refine stop_eql (t := 32) ?_) | (with_reducible refine stop_neq (t := 32) ?_) | (with_reducible refine stop_load (t := 76) ?_))
     refine (rvs_rows hrw (WAS.out.ext (Ex.trans BX.out xx))).mono ?_
     rintro e w8 ⟨rfl, x6⟩
     rw [decide_eq_true (hct.trans WCT.out.symm)]
     have BZ := Lib.hid (Ex.trans BW.out (Ex.trans BX.out (Ex.trans xx x6)))
     clear hrw hct xx x6
     go_wp2_with (first | (with_reducible refine stop_load (t := 36) ?_) | (with_reducible refine stop_store (t := 36) ?_) | (with_reducible refine stop_load (t := 86) ?_) | (with_reducible refine stop_store (t := 86) ?_) | (with_reducible refine stop_load (t := 83) ?_) | (with_reducible refine stop_store (t := 83) ?_) | (with_reducible refine stop_load (t := 34) ?_) | (with_reducible refine stop_store (t := 34) ?_) | (with_reducible refine stop_load (t := 32) ?_) | (with_reducible refine stop_store (t := 32) ?_) | (with_reducible refine stop_build ?_) | (with_reducible refine stop_eql (t := 34) ?_) | (with_reducible refine stop_neq (t := 34) ?_) | (with_reducible refine stop_eql (t := 32) ?_) | (with_reducible refine stop_neq (t := 32) ?_) | (with_reducible refine stop_load (t := 76) ?_))
     refine (known23 w8).mono ?_
     rintro e w9 ⟨rfl, xx⟩
     replace BZ := Lib.hid (Ex.trans BZ.out xx)
     clear xx
     go_wp2_with fail
     go_ret
     exact ⟨rfl, BZ.out⟩
theorem copies_law (v v2 : Value) (w : World) (h : KpRow w v) (h2 : KpRow w v2) : Calls Try.prog 10 #[v, v2] w fun e w' => e = .returned (.bool true) ∧ Below w.heap.size w w' := by
 obtain ⟨ad, cap, l, rfl, hin, hl⟩ := h
 obtain ⟨ad2, cap2, o, rfl, hin2, hl2⟩ := h2
 exact copies_any ad cap l hl ad2 cap2 o hl2 w hin hin2
end Go.Proofs.Ytmjfnpmnhehnkaa
