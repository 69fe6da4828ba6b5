/- VaultLimit walked -/
import Derived.Test.YtedljddjmojeeaaVn
import Derived.Test.YtedljddjmojeeaaVl
namespace Go.Proofs.Ytedljddjmojeeaa
open Go.RowKit
def id1 : List UInt8 := [1, 0, 0, 0]
set_option maxHeartbeats 4000000 in
set_option maxRecDepth 100000 in
theorem limit11_any (ad : Option Addr) (cap : Nat) (l : List Kq) (hL : l.length ≤ 9223372036854775807) (w : World) (hin : Kp.In ad cap l w) : Calls Try.prog 3 #[.slice ad l.length cap] w fun e w' => e = .returned (.bool true) ∧ Ex w w' := by
  have hmm := @run_makeMap Try.prog
  have HIN := Lib.hid hin
  obtain ⟨n, hn⟩ : ∃ n, n = l.length := ⟨_, rfl⟩
  rw [← hn] at hL ⊢
  have HN := Lib.hid hn
  clear hn hin
  go_enter Try.func3, Try.ntmps3
  go_wp2_with (first | (with_reducible refine stop_load (t := 30) ?_) | (with_reducible refine stop_store (t := 30) ?_) | (with_reducible refine stop_load (t := 33) ?_) | (with_reducible refine stop_store (t := 33) ?_) | (with_reducible refine stop_load (t := 39) ?_) | (with_reducible refine stop_store (t := 39) ?_) | (with_reducible refine stop_load (t := 27) ?_) | (with_reducible refine stop_store (t := 27) ?_) | (with_reducible refine stop_load (t := 24) ?_) | (with_reducible refine stop_store (t := 24) ?_) | (with_reducible refine stop_build ?_) | (with_reducible refine stop_eql (t := 27) ?_) | (with_reducible refine stop_neq (t := 27) ?_) | (with_reducible refine stop_eql (t := 24) ?_) | (with_reducible refine stop_neq (t := 24) ?_) | (with_reducible refine stop_load (t := 36) ?_) | (with_reducible refine stop_look ?_) | (with_reducible refine stop_mput ?_) | (with_reducible refine stop_store (t := 3) ?_))
  (with_reducible refine ⟨?_⟩); (with_reducible refine at_any ?_ ?_); (focus go_simp); refine fun K0 hK => wp_build _ _ rfl _ built_zero (hK _ _ ?_)
  clear hK
  go_wp2_with (first | (with_reducible refine stop_load (t := 30) ?_) | (with_reducible refine stop_store (t := 30) ?_) | (with_reducible refine stop_load (t := 33) ?_) | (with_reducible refine stop_store (t := 33) ?_) | (with_reducible refine stop_load (t := 39) ?_) | (with_reducible refine stop_store (t := 39) ?_) | (with_reducible refine stop_load (t := 27) ?_) | (with_reducible refine stop_store (t := 27) ?_) | (with_reducible refine stop_load (t := 24) ?_) | (with_reducible refine stop_store (t := 24) ?_) | (with_reducible refine stop_build ?_) | (with_reducible refine stop_eql (t := 27) ?_) | (with_reducible refine stop_neq (t := 27) ?_) | (with_reducible refine stop_eql (t := 24) ?_) | (with_reducible refine stop_neq (t := 24) ?_) | (with_reducible refine stop_load (t := 36) ?_) | (with_reducible refine stop_look ?_) | (with_reducible refine stop_mput ?_) | (with_reducible refine stop_store (t := 3) ?_))
  (with_reducible refine ⟨?_⟩); (with_reducible refine at_any ?_ ?_); (focus go_simp); refine fun K0 hK => st_v _ _ w.heap.size zeroVt rfl rfl rfl zeroVt_ok (Bk.new rfl _ _) (by rfl) (fun w2 hd ho => hK _ _ ?_)
  clear hK
  have x2 : Ex w w2 := ho.below w.heap.size (Nat.le_refl _) w (Ex.alloc w _)
  obtain ⟨B, hB⟩ : ∃ B, B = w.heap.size := ⟨_, rfl⟩
  rw [← hB] at hd ⊢
  have HB := Lib.hid hB
  clear hB ho
  have x3 : Ex w2 ((w2.alloc (.map #[] 0)).alloc (.map #[] 0)) := Ex.trans (Ex.alloc _ _) (Ex.alloc _ _)
  have V0 := Lib.hid (VB.ext hd x3)
  have M1 : Hid (MB ((w2.alloc (.map #[] 0)).alloc (.map #[] 0)) w2.heap.size 0 (fun _ => 0)) := Lib.hid ((mb_new w2).ext (Ex.alloc _ _))
  have M2 : Hid (MB ((w2.alloc (.map #[] 0)).alloc (.map #[] 0)) (w2.heap.size + 1) 0 (fun _ => 0)) := Lib.hid (by have h := mb_new (w2.alloc (.map #[] 0)); rw [show (w2.alloc (.map #[] 0)).heap.size = w2.heap.size + 1 by simp] at h; exact h)
  have BW := Lib.hid (Ex.trans x2 x3)
  have hlt : B < w2.heap.size := VB.lt hd
  clear hd x2 x3
  go_wp2_with (first | (with_reducible refine stop_load (t := 30) ?_) | (with_reducible refine stop_store (t := 30) ?_) | (with_reducible refine stop_load (t := 33) ?_) | (with_reducible refine stop_store (t := 33) ?_) | (with_reducible refine stop_load (t := 39) ?_) | (with_reducible refine stop_store (t := 39) ?_) | (with_reducible refine stop_load (t := 27) ?_) | (with_reducible refine stop_store (t := 27) ?_) | (with_reducible refine stop_load (t := 24) ?_) | (with_reducible refine stop_store (t := 24) ?_) | (with_reducible refine stop_build ?_) | (with_reducible refine stop_eql (t := 27) ?_) | (with_reducible refine stop_neq (t := 27) ?_) | (with_reducible refine stop_eql (t := 24) ?_) | (with_reducible refine stop_neq (t := 24) ?_) | (with_reducible refine stop_load (t := 36) ?_) | (with_reducible refine stop_look ?_) | (with_reducible refine stop_mput ?_) | (with_reducible refine stop_store (t := 3) ?_))
  change Code.wp _ _ _ _ ((w2.alloc (.map #[] 0)).alloc (.map #[] 0))
  generalize ((w2.alloc (.map #[] 0)).alloc (.map #[] 0)) = w3 at *
  generalize w2.heap.size = m at *
  clear hmm
  go_loopw [6, 7] (fun t i wr => ∃ (k : Nat) (v : Vt) (fw fl : Int → Int) (ov : Int) (n1 n2 : Nat), k ≤ n ∧ k ≤ 80 ∧ t = .int .u64 ov ∧ i = .int .i64 k ∧ n1 ≤ k ∧ n2 ≤ k ∧ Hid (VB wr B v) ∧ Hid (VN wr (m + 2) v) ∧ Hid (Inv v.ct fw fl ov) ∧ Hid (MB wr m n1 fw) ∧ Hid (MB wr (m + 1) n2 fl) ∧ Hid (Ex w wr)) (fun _ i _ => n - (intOf i).toNat)
  case atStart => exact ⟨0, zeroVt, fun _ => 0, fun _ => 0, 0, 0, 0, by omega, by omega, rfl, rfl, by omega, by omega, V0, Lib.hid ⟨zeroVt_ok, nilB_pn _ _⟩, Lib.hid Inv.zero, M1, M2, BW⟩
  case round =>
    clear V0 M1 M2 BW
    obtain ⟨k, v, fw, fl, ov, n1, n2, hk, hk80, rfl, rfl, hn1, hn2, V0, VN0, IV, M1, M2, BW⟩ := hrel
    by_cases hlt2 : k < n ∧ k < 80
    · obtain ⟨h1, h2⟩ := hlt2
      obtain ⟨a, o, rfl, ha, hc⟩ := HIN.out.read (by rw [← HN.out]; omega)
      obtain ⟨x, hx⟩ : ∃ x, l[k]? = some x := ⟨_, List.getElem?_eq_getElem (by rw [← HN.out]; exact h1)⟩
      have XI := Lib.hid ((HIN.out.ins k x hx).ext BW.out)
      have XR : Hid (wr.rangeAt a (o + k * 8) x.C) := Lib.hid (fun j u hu => (Below.cell (p := ⟨a, o + k * 8 + j, none⟩) BW.out ha).trans (hc k x hx j u hu))
      clear hc hx ha
      have q0 : (0 : Int) ≤ (k : Int) := by omega
      have q1 : (k : Int) < (n : Int) := by omega
      have q2 : (k : Int) < 80 := by omega
      go_wp2_with (first | (with_reducible refine stop_load (t := 30) ?_) | (with_reducible refine stop_store (t := 30) ?_) | (with_reducible refine stop_load (t := 33) ?_) | (with_reducible refine stop_store (t := 33) ?_) | (with_reducible refine stop_load (t := 39) ?_) | (with_reducible refine stop_store (t := 39) ?_) | (with_reducible refine stop_load (t := 27) ?_) | (with_reducible refine stop_store (t := 27) ?_) | (with_reducible refine stop_load (t := 24) ?_) | (with_reducible refine stop_store (t := 24) ?_) | (with_reducible refine stop_build ?_) | (with_reducible refine stop_eql (t := 27) ?_) | (with_reducible refine stop_neq (t := 27) ?_) | (with_reducible refine stop_eql (t := 24) ?_) | (with_reducible refine stop_neq (t := 24) ?_) | (with_reducible refine stop_load (t := 36) ?_) | (with_reducible refine stop_look ?_) | (with_reducible refine stop_mput ?_) | (with_reducible refine stop_store (t := 3) ?_))
      (with_reducible refine ⟨?_⟩); (with_reducible refine at_any ?_ ?_); (focus go_simp); refine fun K0 hK => ld_k _ a (o + k * 8) x rfl rfl XR.out (hK _ _ ?_)
      clear hK
      go_wp2_with (first | (with_reducible refine stop_load (t := 30) ?_) | (with_reducible refine stop_store (t := 30) ?_) | (with_reducible refine stop_load (t := 33) ?_) | (with_reducible refine stop_store (t := 33) ?_) | (with_reducible refine stop_load (t := 39) ?_) | (with_reducible refine stop_store (t := 39) ?_) | (with_reducible refine stop_load (t := 27) ?_) | (with_reducible refine stop_store (t := 27) ?_) | (with_reducible refine stop_load (t := 24) ?_) | (with_reducible refine stop_store (t := 24) ?_) | (with_reducible refine stop_build ?_) | (with_reducible refine stop_eql (t := 27) ?_) | (with_reducible refine stop_neq (t := 27) ?_) | (with_reducible refine stop_eql (t := 24) ?_) | (with_reducible refine stop_neq (t := 24) ?_) | (with_reducible refine stop_load (t := 36) ?_) | (with_reducible refine stop_look ?_) | (with_reducible refine stop_mput ?_) | (with_reducible refine stop_store (t := 3) ?_))
      refine (req_any x wr XI.out).mono ?_
      rintro e w4 ⟨q, rfl, hqi, hqr, xx⟩
      have QI0 := Lib.hid hqi
      have QS := Lib.hid hqi.sec
      have QR := Lib.hid hqr
      replace V0 := Lib.hid (V0.out.ext xx)
      replace VN0 := Lib.hid (VN0.out.ext xx)
      replace M1 := Lib.hid (M1.out.ext xx)
      replace M2 := Lib.hid (M2.out.ext xx)
      replace BW := Lib.hid (Ex.trans BW.out xx)
      have SZ := Lib.hid (show m + 2 ≤ w4.heap.size from M2.out.lt)
      clear XI XR hqi hqr xx
      go_wp2_with (first | (with_reducible refine stop_load (t := 30) ?_) | (with_reducible refine stop_store (t := 30) ?_) | (with_reducible refine stop_load (t := 33) ?_) | (with_reducible refine stop_store (t := 33) ?_) | (with_reducible refine stop_load (t := 39) ?_) | (with_reducible refine stop_store (t := 39) ?_) | (with_reducible refine stop_load (t := 27) ?_) | (with_reducible refine stop_store (t := 27) ?_) | (with_reducible refine stop_load (t := 24) ?_) | (with_reducible refine stop_store (t := 24) ?_) | (with_reducible refine stop_build ?_) | (with_reducible refine stop_eql (t := 27) ?_) | (with_reducible refine stop_neq (t := 27) ?_) | (with_reducible refine stop_eql (t := 24) ?_) | (with_reducible refine stop_neq (t := 24) ?_) | (with_reducible refine stop_load (t := 36) ?_) | (with_reducible refine stop_look ?_) | (with_reducible refine stop_mput ?_) | (with_reducible refine stop_store (t := 3) ?_))
      (with_reducible refine ⟨?_⟩); (with_reducible refine at_any ?_ ?_); (focus go_simp); refine fun K0 hK => st_q _ _ w4.heap.size q rfl rfl rfl QI0.out.ok (Bk.new rfl _ _) (by rfl) (fun w5 hd ho => hK _ _ ?_)
      clear hK
      have xx : Ex w4 w5 := ho.below w4.heap.size (Nat.le_refl _) w4 (Ex.alloc w4 _)
      replace V0 := Lib.hid (V0.out.ext xx)
      replace VN0 := Lib.hid (VN0.out.ext xx)
      replace M1 := Lib.hid (M1.out.ext xx)
      replace M2 := Lib.hid (M2.out.ext xx)
      replace QI0 := Lib.hid (QI0.out.ext xx)
      replace BW := Lib.hid (Ex.trans BW.out xx)
      obtain ⟨g, hg⟩ : ∃ g, g = w4.heap.size := ⟨_, rfl⟩
      have X3 : Hid (Below g w4 w5) := Lib.hid (by rw [hg]; exact xx)
      rw [← hg] at hd SZ QS ⊢
      have Q1 := Lib.hid hd
      clear hg hd ho xx
      go_wp2_with (first | (with_reducible refine stop_load (t := 30) ?_) | (with_reducible refine stop_store (t := 30) ?_) | (with_reducible refine stop_load (t := 33) ?_) | (with_reducible refine stop_store (t := 33) ?_) | (with_reducible refine stop_load (t := 39) ?_) | (with_reducible refine stop_store (t := 39) ?_) | (with_reducible refine stop_load (t := 27) ?_) | (with_reducible refine stop_store (t := 27) ?_) | (with_reducible refine stop_load (t := 24) ?_) | (with_reducible refine stop_store (t := 24) ?_) | (with_reducible refine stop_build ?_) | (with_reducible refine stop_eql (t := 27) ?_) | (with_reducible refine stop_neq (t := 27) ?_) | (with_reducible refine stop_eql (t := 24) ?_) | (with_reducible refine stop_neq (t := 24) ?_) | (with_reducible refine stop_load (t := 36) ?_) | (with_reducible refine stop_look ?_) | (with_reducible refine stop_mput ?_) | (with_reducible refine stop_store (t := 3) ?_))
      (with_reducible refine ⟨?_⟩); (with_reducible refine at_any ?_ ?_); (focus go_simp); refine fun K0 hK => wp_build _ _ rfl _ (kbi 1) (hK _ _ ?_)
      clear hK
      go_wp2_with (first | (with_reducible refine stop_load (t := 30) ?_) | (with_reducible refine stop_store (t := 30) ?_) | (with_reducible refine stop_load (t := 33) ?_) | (with_reducible refine stop_store (t := 33) ?_) | (with_reducible refine stop_load (t := 39) ?_) | (with_reducible refine stop_store (t := 39) ?_) | (with_reducible refine stop_load (t := 27) ?_) | (with_reducible refine stop_store (t := 27) ?_) | (with_reducible refine stop_load (t := 24) ?_) | (with_reducible refine stop_store (t := 24) ?_) | (with_reducible refine stop_build ?_) | (with_reducible refine stop_eql (t := 27) ?_) | (with_reducible refine stop_neq (t := 27) ?_) | (with_reducible refine stop_eql (t := 24) ?_) | (with_reducible refine stop_neq (t := 24) ?_) | (with_reducible refine stop_load (t := 36) ?_) | (with_reducible refine stop_look ?_) | (with_reducible refine stop_mput ?_) | (with_reducible refine stop_store (t := 3) ?_))
      (with_reducible refine ⟨?_⟩); (with_reducible refine at_any ?_ ?_); (focus go_simp); refine fun K0 hK => st_qid _ _ g q id1 rfl rfl rfl rfl Q1.out (fun w6 hd ho => hK _ _ ?_)
      clear hK
      have sz := SZ.out
      replace V0 := Lib.hid (ho.vb V0.out (by omega))
      replace M1 := Lib.hid (ho.mb M1.out (by omega))
      replace M2 := Lib.hid (ho.mb M2.out (by omega))
      have PT := Q1.out.2
      replace VN0 := Lib.hid (show VN w6 (m + 2) v from ⟨VN0.out.1, VN0.out.2.onlyT ho PT (by decide)⟩)
      replace BW := Lib.hid (ho.below w.heap.size (by rw [← HB.out]; omega) w BW.out)
      replace X3 := Lib.hid (ho.below g (Nat.le_refl _) w4 X3.out)
      replace Q1 := Lib.hid hd
      clear hd ho PT sz QI0
      obtain ⟨q0c, q21, q22, q55, q56⟩ := Q1.out.cells
      clear q0c q21 q55 q56
      have hq4 := Q1.out.1.lim0
      have hq5 := Q1.out.1.lim1
      go_wp2_with (first | (with_reducible refine stop_load (t := 30) ?_) | (with_reducible refine stop_store (t := 30) ?_) | (with_reducible refine stop_load (t := 33) ?_) | (with_reducible refine stop_store (t := 33) ?_) | (with_reducible refine stop_load (t := 39) ?_) | (with_reducible refine stop_store (t := 39) ?_) | (with_reducible refine stop_load (t := 27) ?_) | (with_reducible refine stop_store (t := 27) ?_) | (with_reducible refine stop_load (t := 24) ?_) | (with_reducible refine stop_store (t := 24) ?_) | (with_reducible refine stop_build ?_) | (with_reducible refine stop_eql (t := 27) ?_) | (with_reducible refine stop_neq (t := 27) ?_) | (with_reducible refine stop_eql (t := 24) ?_) | (with_reducible refine stop_neq (t := 24) ?_) | (with_reducible refine stop_load (t := 36) ?_) | (with_reducible refine stop_look ?_) | (with_reducible refine stop_mput ?_) | (with_reducible refine stop_store (t := 3) ?_))
      (with_reducible refine ⟨?_⟩); (with_reducible refine at_any ?_ ?_); (focus go_simp); refine fun K0 hK => st_qlim (by kernel_rfl) _ _ g { q with id := id1 } (min q.lim 4) rfl rfl rfl (by have e : Qt.lim { q with id := id1 } = q.lim := rfl; omega) (by have e : Qt.lim { q with id := id1 } = q.lim := rfl; omega) Q1.out (fun w7 hd ho => hK _ _ ?_)
      clear hK
      have sz := SZ.out
      replace V0 := Lib.hid (ho.vb V0.out (by omega))
      replace M1 := Lib.hid (ho.mb M1.out (by omega))
      replace M2 := Lib.hid (ho.mb M2.out (by omega))
      have PT := Q1.out.2
      replace VN0 := Lib.hid (show VN w7 (m + 2) v from ⟨VN0.out.1, VN0.out.2.onlyT ho PT (by decide)⟩)
      replace BW := Lib.hid (ho.below w.heap.size (by rw [← HB.out]; omega) w BW.out)
      have QI0 : Hid (QI w7 { q with id := id1, lim := min q.lim 4 }) := Lib.hid ⟨hd.1, (QS.out.keep (ho.below g (Nat.le_refl _) w4 X3.out)).more (by rw [ho.size]; exact Nat.le_of_lt Q1.out.lt)⟩
      obtain ⟨q7, hq7⟩ : ∃ y : Qt, y = { q with id := id1, lim := min q.lim 4 } := ⟨_, rfl⟩
      replace Q1 : Hid (QB w7 g q7) := Lib.hid (by rw [hq7]; exact hd)
      rw [← hq7] at QI0
      have QID : Hid (q7.ct.id = id1) := Lib.hid (by rw [hq7]; rfl)
      replace QR : Hid (q7.ct.right = true) := Lib.hid (by rw [hq7]; exact right_min QR.out id1 _ rfl)
      clear hd ho PT hq7 sz X3 QS q22 hq4 hq5
      go_wp2_with (first | (with_reducible refine stop_load (t := 30) ?_) | (with_reducible refine stop_store (t := 30) ?_) | (with_reducible refine stop_load (t := 33) ?_) | (with_reducible refine stop_store (t := 33) ?_) | (with_reducible refine stop_load (t := 39) ?_) | (with_reducible refine stop_store (t := 39) ?_) | (with_reducible refine stop_load (t := 27) ?_) | (with_reducible refine stop_store (t := 27) ?_) | (with_reducible refine stop_load (t := 24) ?_) | (with_reducible refine stop_store (t := 24) ?_) | (with_reducible refine stop_build ?_) | (with_reducible refine stop_eql (t := 27) ?_) | (with_reducible refine stop_neq (t := 27) ?_) | (with_reducible refine stop_eql (t := 24) ?_) | (with_reducible refine stop_neq (t := 24) ?_) | (with_reducible refine stop_load (t := 36) ?_) | (with_reducible refine stop_look ?_) | (with_reducible refine stop_mput ?_) | (with_reducible refine stop_store (t := 3) ?_))
      (with_reducible refine ⟨?_⟩); (with_reducible refine at_any ?_ ?_); (focus go_simp); refine fun K0 hK => ld_v _ _ v rfl rfl V0.out (hK _ _ ?_)
      clear hK
      go_wp2_with (first | (with_reducible refine stop_load (t := 30) ?_) | (with_reducible refine stop_store (t := 30) ?_) | (with_reducible refine stop_load (t := 33) ?_) | (with_reducible refine stop_store (t := 33) ?_) | (with_reducible refine stop_load (t := 39) ?_) | (with_reducible refine stop_store (t := 39) ?_) | (with_reducible refine stop_load (t := 27) ?_) | (with_reducible refine stop_store (t := 27) ?_) | (with_reducible refine stop_load (t := 24) ?_) | (with_reducible refine stop_store (t := 24) ?_) | (with_reducible refine stop_build ?_) | (with_reducible refine stop_eql (t := 27) ?_) | (with_reducible refine stop_neq (t := 27) ?_) | (with_reducible refine stop_eql (t := 24) ?_) | (with_reducible refine stop_neq (t := 24) ?_) | (with_reducible refine stop_load (t := 36) ?_) | (with_reducible refine stop_look ?_) | (with_reducible refine stop_mput ?_) | (with_reducible refine stop_store (t := 3) ?_))
      (with_reducible refine ⟨?_⟩); (with_reducible refine at_any ?_ ?_); (focus go_simp); refine fun K0 hK => ld_q _ _ q7 rfl rfl Q1.out (hK _ _ ?_)
      clear hK
      go_wp2_with (first | (with_reducible refine stop_load (t := 30) ?_) | (with_reducible refine stop_store (t := 30) ?_) | (with_reducible refine stop_load (t := 33) ?_) | (with_reducible refine stop_store (t := 33) ?_) | (with_reducible refine stop_load (t := 39) ?_) | (with_reducible refine stop_store (t := 39) ?_) | (with_reducible refine stop_load (t := 27) ?_) | (with_reducible refine stop_store (t := 27) ?_) | (with_reducible refine stop_load (t := 24) ?_) | (with_reducible refine stop_store (t := 24) ?_) | (with_reducible refine stop_build ?_) | (with_reducible refine stop_eql (t := 27) ?_) | (with_reducible refine stop_neq (t := 27) ?_) | (with_reducible refine stop_eql (t := 24) ?_) | (with_reducible refine stop_neq (t := 24) ?_) | (with_reducible refine stop_load (t := 36) ?_) | (with_reducible refine stop_look ?_) | (with_reducible refine stop_mput ?_) | (with_reducible refine stop_store (t := 3) ?_))
      refine (do_any v q7 w7 VN0.out.vi QI0.out).mono ?_
      rintro e w8 ⟨v', r, b, rfl, hz, hv, hro, hrs, xx⟩
      have F := do_facts QR.out (by rw [QID.out]; exact IV.out.kept) hz
      have KP1 := Lib.hid (by have h := F.kept; rw [QID.out] at h; exact h : Kept [1, 0, 0, 0] v'.ct)
      have KD : Kind v.ct q7.ct v'.ct r.ct b := by have h := do_kind QR.out (by rw [QID.out]; exact IV.out.kept); rw [← hz] at h; exact h
      have VN1 := Lib.hid (hv.2.less (show m + 2 ≤ w7.heap.size from M2.out.lt))
      have VI1 := Lib.hid hv.vi
      have RO := Lib.hid hro
      have VN9 := VN0
      clear F hz hv hro hrs VN0 QI0
      replace V0 := Lib.hid (V0.out.ext xx)
      replace M1 := Lib.hid (M1.out.ext xx)
      replace M2 := Lib.hid (M2.out.ext xx)
      replace Q1 := Lib.hid (Q1.out.ext xx)
      replace VN9 := Lib.hid (VN9.out.ext xx)
      replace BW := Lib.hid (Ex.trans BW.out xx)
      have SB := Lib.hid (show m + 2 ≤ w8.heap.size from M2.out.lt)
      clear xx
      generalize hvc : v'.ct = vc at KD
      generalize hrc : r.ct = rc at KD
      have GE := Kept.gen IV.out.kept
      obtain ⟨gb0, gb1⟩ : 0 ≤ v.gen ∧ v.gen ≤ 1099511627776 := GE
      cases KD with
        | fresh ho hg =>
          have hg : v.gen < 1099511627776 := hg
          have HGN := Lib.hid hg
          have VC := Lib.hid hvc
          have RW := Lib.hid (congrArg (·.why) hrc)
          have RG := Lib.hid (congrArg (·.gen) hrc)
          have RS := Lib.hid (congrArg (·.sec) hrc)
          have RL := Lib.hid (congrArg (·.left) hrc)
          clear hvc hrc
          go_wp2_with (first | (with_reducible refine stop_load (t := 30) ?_) | (with_reducible refine stop_store (t := 30) ?_) | (with_reducible refine stop_load (t := 33) ?_) | (with_reducible refine stop_store (t := 33) ?_) | (with_reducible refine stop_load (t := 39) ?_) | (with_reducible refine stop_store (t := 39) ?_) | (with_reducible refine stop_load (t := 27) ?_) | (with_reducible refine stop_store (t := 27) ?_) | (with_reducible refine stop_load (t := 24) ?_) | (with_reducible refine stop_store (t := 24) ?_) | (with_reducible refine stop_build ?_) | (with_reducible refine stop_eql (t := 27) ?_) | (with_reducible refine stop_neq (t := 27) ?_) | (with_reducible refine stop_eql (t := 24) ?_) | (with_reducible refine stop_neq (t := 24) ?_) | (with_reducible refine stop_load (t := 36) ?_) | (with_reducible refine stop_look ?_) | (with_reducible refine stop_mput ?_) | (with_reducible refine stop_store (t := 3) ?_))
          (with_reducible refine ⟨?_⟩); (with_reducible refine at_any ?_ ?_); (focus go_simp); refine fun K0 hK => st_v _ _ w8.heap.size v' rfl rfl rfl VI1.out.ok ((Bk.new rfl _ _).more _) (by rfl) (fun w9 d1 o1 => hK _ _ ?_)
          clear hK
          have Y1 : Hid (Bk w9 (w8.heap.size + 1) 39 zeroRt.C.toArray) := Lib.hid (o1.bk (Bk.new (by simp) _ _) (by omega))
          have D1 := Lib.hid d1
          have O1 := Lib.hid o1
          clear d1 o1
          go_wp2_with (first | (with_reducible refine stop_load (t := 30) ?_) | (with_reducible refine stop_store (t := 30) ?_) | (with_reducible refine stop_load (t := 33) ?_) | (with_reducible refine stop_store (t := 33) ?_) | (with_reducible refine stop_load (t := 39) ?_) | (with_reducible refine stop_store (t := 39) ?_) | (with_reducible refine stop_load (t := 27) ?_) | (with_reducible refine stop_store (t := 27) ?_) | (with_reducible refine stop_load (t := 24) ?_) | (with_reducible refine stop_store (t := 24) ?_) | (with_reducible refine stop_build ?_) | (with_reducible refine stop_eql (t := 27) ?_) | (with_reducible refine stop_neq (t := 27) ?_) | (with_reducible refine stop_eql (t := 24) ?_) | (with_reducible refine stop_neq (t := 24) ?_) | (with_reducible refine stop_load (t := 36) ?_) | (with_reducible refine stop_look ?_) | (with_reducible refine stop_mput ?_) | (with_reducible refine stop_store (t := 3) ?_))
          (with_reducible refine ⟨?_⟩); (with_reducible refine at_any ?_ ?_); (focus go_simp); refine fun K0 hK => st_r _ _ (w8.heap.size + 1) r rfl rfl rfl RO.out Y1.out (by rfl) (fun w10 d2 o2 => hK _ _ ?_)
          clear hK
          obtain ⟨gv, gr, xx⟩ := pair_facts O1.out D1.out o2 d2
          clear D1 O1 Y1 o2 d2
          replace V0 := Lib.hid (V0.out.ext xx)
          replace Q1 := Lib.hid (Q1.out.ext xx)
          replace VN1 := Lib.hid (VN1.out.ext xx)
          replace VI1 := Lib.hid (VI1.out.ext xx)
          replace M1 := Lib.hid (M1.out.ext xx)
          replace M2 := Lib.hid (M2.out.ext xx)
          replace VN9 := Lib.hid (VN9.out.ext xx)
          replace BW := Lib.hid (Ex.trans BW.out xx)
          obtain ⟨g8, hgn⟩ : ∃ g, g = w8.heap.size := ⟨_, rfl⟩
          rw [← hgn] at gv gr ⊢
          have g8S := Lib.hid hgn
          have g8V := Lib.hid gv
          have g8R := Lib.hid gr
          clear gv gr xx hgn
          replace SB := Lib.hid (show m + 2 ≤ g8 by rw [g8S.out]; exact SB.out)
          clear g8S
          have HLB := qright_parts QR.out ho
          have hl0 : 1 ≤ q7.lim := HLB.1
          have hl1 : q7.lim ≤ 32 := HLB.2.1
          clear HLB
          have L0 : Hid (fl (v.gen + 1) = 0) := Lib.hid (IV.out.later (v.gen + 1) (by show v.gen < v.gen + 1; omega)).2
          rcases ho with hq1 | hq1
          · have HO : Hid (q7.op = 1) := Lib.hid hq1
            clear hq1
            obtain ⟨q0c, q21, q22, q55, q56⟩ := Q1.out.cells
            obtain ⟨r0, r5, r6, r7, r8, r9⟩ := g8R.out.cells
            obtain ⟨v4, v21, v22, v23, v40, v41⟩ := V0.out.cells
            obtain ⟨n4, n21, n22, n23, n40, n41⟩ := g8V.out.cells
            unfold Pt.V at r7
            rw [show r.why = 0 from RW.out] at r0
            clear q21 q55 q56 r8 r9 v21 v22 v23 v40 v41 n4 n21 n22 n23 n40 n41 v4
            rw [show q7.op = 1 from HO.out] at q0c
            have rl : r.sec.l.length = 0 := by rw [show r.sec.l = [] from RS.out]; rfl
            rw [rl] at r7
            clear rl
            rw [show r.gen = v.gen + 1 from RG.out] at r5
            go_wp2_with (first | (with_reducible refine stop_load (t := 30) ?_) | (with_reducible refine stop_store (t := 30) ?_) | (with_reducible refine stop_load (t := 33) ?_) | (with_reducible refine stop_store (t := 33) ?_) | (with_reducible refine stop_load (t := 39) ?_) | (with_reducible refine stop_store (t := 39) ?_) | (with_reducible refine stop_load (t := 27) ?_) | (with_reducible refine stop_store (t := 27) ?_) | (with_reducible refine stop_load (t := 24) ?_) | (with_reducible refine stop_store (t := 24) ?_) | (with_reducible refine stop_build ?_) | (with_reducible refine stop_eql (t := 27) ?_) | (with_reducible refine stop_neq (t := 27) ?_) | (with_reducible refine stop_eql (t := 24) ?_) | (with_reducible refine stop_neq (t := 24) ?_) | (with_reducible refine stop_load (t := 36) ?_) | (with_reducible refine stop_look ?_) | (with_reducible refine stop_mput ?_) | (with_reducible refine stop_store (t := 3) ?_))
            (first | ((with_reducible refine ⟨?_⟩); (with_reducible refine at_not ?_ ?_); (focus (go_simp; done)); go_wp2_with (first | (with_reducible refine stop_load (t := 30) ?_) | (with_reducible refine stop_store (t := 30) ?_) | (with_reducible refine stop_load (t := 33) ?_) | (with_reducible refine stop_store (t := 33) ?_) | (with_reducible refine stop_load (t := 39) ?_) | (with_reducible refine stop_store (t := 39) ?_) | (with_reducible refine stop_load (t := 27) ?_) | (with_reducible refine stop_store (t := 27) ?_) | (with_reducible refine stop_load (t := 24) ?_) | (with_reducible refine stop_store (t := 24) ?_) | (with_reducible refine stop_build ?_) | (with_reducible refine stop_eql (t := 27) ?_) | (with_reducible refine stop_neq (t := 27) ?_) | (with_reducible refine stop_eql (t := 24) ?_) | (with_reducible refine stop_neq (t := 24) ?_) | (with_reducible refine stop_load (t := 36) ?_) | (with_reducible refine stop_look ?_) | (with_reducible refine stop_mput ?_) | (with_reducible refine stop_store (t := 3) ?_))) | skip)
            (first | ((with_reducible refine ⟨?_⟩); (with_reducible refine at_not ?_ ?_); (focus (go_simp; done)); go_wp2_with (first | (with_reducible refine stop_load (t := 30) ?_) | (with_reducible refine stop_store (t := 30) ?_) | (with_reducible refine stop_load (t := 33) ?_) | (with_reducible refine stop_store (t := 33) ?_) | (with_reducible refine stop_load (t := 39) ?_) | (with_reducible refine stop_store (t := 39) ?_) | (with_reducible refine stop_load (t := 27) ?_) | (with_reducible refine stop_store (t := 27) ?_) | (with_reducible refine stop_load (t := 24) ?_) | (with_reducible refine stop_store (t := 24) ?_) | (with_reducible refine stop_build ?_) | (with_reducible refine stop_eql (t := 27) ?_) | (with_reducible refine stop_neq (t := 27) ?_) | (with_reducible refine stop_eql (t := 24) ?_) | (with_reducible refine stop_neq (t := 24) ?_) | (with_reducible refine stop_load (t := 36) ?_) | (with_reducible refine stop_look ?_) | (with_reducible refine stop_mput ?_) | (with_reducible refine stop_store (t := 3) ?_))) | skip)
            (with_reducible refine ⟨?_⟩); (with_reducible refine at_any ?_ ?_); (focus go_simp); refine fun K0 hK => wp_look _ _ rfl (m + 1) n2 fl (v.gen + 1) 0 rfl rfl M2.out (by omega) (by omega) L0.out (hK _ _ ?_)
            clear hK
            go_wp2_with (first | (with_reducible refine stop_load (t := 30) ?_) | (with_reducible refine stop_store (t := 30) ?_) | (with_reducible refine stop_load (t := 33) ?_) | (with_reducible refine stop_store (t := 33) ?_) | (with_reducible refine stop_load (t := 39) ?_) | (with_reducible refine stop_store (t := 39) ?_) | (with_reducible refine stop_load (t := 27) ?_) | (with_reducible refine stop_store (t := 27) ?_) | (with_reducible refine stop_load (t := 24) ?_) | (with_reducible refine stop_store (t := 24) ?_) | (with_reducible refine stop_build ?_) | (with_reducible refine stop_eql (t := 27) ?_) | (with_reducible refine stop_neq (t := 27) ?_) | (with_reducible refine stop_eql (t := 24) ?_) | (with_reducible refine stop_neq (t := 24) ?_) | (with_reducible refine stop_load (t := 36) ?_) | (with_reducible refine stop_look ?_) | (with_reducible refine stop_mput ?_) | (with_reducible refine stop_store (t := 3) ?_))
            (with_reducible refine ⟨?_⟩); (with_reducible refine at_any ?_ ?_); (focus go_simp); refine fun K0 hK => wp_mput _ _ _ rfl (m + 1) n2 fl (v.gen + 1) q7.lim rfl rfl rfl M2.out (by omega) (by omega) (by omega) (by omega) (by omega) (fun w11 hm mk => hK _ _ ?_)
            clear hK
            have sb := SB.out
            have sz := SZ.out
            clear q0c q22 r0 r5 r6 r7
            replace V0 := Lib.hid (mk.vb V0.out (by omega))
            replace Q1 := Lib.hid (mk.qb Q1.out (by omega))
            replace g8V := Lib.hid (mk.vb g8V.out (by omega))
            replace g8R := Lib.hid (mk.rb g8R.out (by omega))
            replace M1 := Lib.hid (mk.mb M1.out (by omega))
            replace M2 := Lib.hid hm
            have VN1' := Lib.hid (VN1.out.md mk (by omega))
            replace VI1 : Hid (VI w11 v') := Lib.hid ⟨VI1.out.ok, VN1'.out.1⟩
            replace VN1 := VN1'
            replace BW := Lib.hid (mk.below w.heap.size (by rw [← HB.out]; omega) w BW.out)
            clear hm mk sb sz VN1'
            obtain ⟨q0c, q21, q22, q55, q56⟩ := Q1.out.cells
            obtain ⟨r0, r5, r6, r7, r8, r9⟩ := g8R.out.cells
            obtain ⟨v4, v21, v22, v23, v40, v41⟩ := V0.out.cells
            obtain ⟨n4, n21, n22, n23, n40, n41⟩ := g8V.out.cells
            unfold Pt.V at r7
            rw [show r.why = 0 from RW.out] at r0
            clear q21 q55 q56 r8 r9 v21 v22 v23 v40 v41 n4 n21 n22 n23 n40 n41 v4
            rw [show q7.op = 1 from HO.out] at q0c
            have rl : r.sec.l.length = 0 := by rw [show r.sec.l = [] from RS.out]; rfl
            rw [rl] at r7
            clear rl
            rw [show r.gen = v.gen + 1 from RG.out] at r5
            go_wp2_with (first | (with_reducible refine stop_load (t := 30) ?_) | (with_reducible refine stop_store (t := 30) ?_) | (with_reducible refine stop_load (t := 33) ?_) | (with_reducible refine stop_store (t := 33) ?_) | (with_reducible refine stop_load (t := 39) ?_) | (with_reducible refine stop_store (t := 39) ?_) | (with_reducible refine stop_load (t := 27) ?_) | (with_reducible refine stop_store (t := 27) ?_) | (with_reducible refine stop_load (t := 24) ?_) | (with_reducible refine stop_store (t := 24) ?_) | (with_reducible refine stop_build ?_) | (with_reducible refine stop_eql (t := 27) ?_) | (with_reducible refine stop_neq (t := 27) ?_) | (with_reducible refine stop_eql (t := 24) ?_) | (with_reducible refine stop_neq (t := 24) ?_) | (with_reducible refine stop_load (t := 36) ?_) | (with_reducible refine stop_look ?_) | (with_reducible refine stop_mput ?_) | (with_reducible refine stop_store (t := 3) ?_))
            (first | ((with_reducible refine ⟨?_⟩); (with_reducible refine at_not ?_ ?_); (focus (go_simp; done)); go_wp2_with (first | (with_reducible refine stop_load (t := 30) ?_) | (with_reducible refine stop_store (t := 30) ?_) | (with_reducible refine stop_load (t := 33) ?_) | (with_reducible refine stop_store (t := 33) ?_) | (with_reducible refine stop_load (t := 39) ?_) | (with_reducible refine stop_store (t := 39) ?_) | (with_reducible refine stop_load (t := 27) ?_) | (with_reducible refine stop_store (t := 27) ?_) | (with_reducible refine stop_load (t := 24) ?_) | (with_reducible refine stop_store (t := 24) ?_) | (with_reducible refine stop_build ?_) | (with_reducible refine stop_eql (t := 27) ?_) | (with_reducible refine stop_neq (t := 27) ?_) | (with_reducible refine stop_eql (t := 24) ?_) | (with_reducible refine stop_neq (t := 24) ?_) | (with_reducible refine stop_load (t := 36) ?_) | (with_reducible refine stop_look ?_) | (with_reducible refine stop_mput ?_) | (with_reducible refine stop_store (t := 3) ?_))) | skip)
            (first | ((with_reducible refine ⟨?_⟩); (with_reducible refine at_not ?_ ?_); (focus (go_simp; done)); go_wp2_with (first | (with_reducible refine stop_load (t := 30) ?_) | (with_reducible refine stop_store (t := 30) ?_) | (with_reducible refine stop_load (t := 33) ?_) | (with_reducible refine stop_store (t := 33) ?_) | (with_reducible refine stop_load (t := 39) ?_) | (with_reducible refine stop_store (t := 39) ?_) | (with_reducible refine stop_load (t := 27) ?_) | (with_reducible refine stop_store (t := 27) ?_) | (with_reducible refine stop_load (t := 24) ?_) | (with_reducible refine stop_store (t := 24) ?_) | (with_reducible refine stop_build ?_) | (with_reducible refine stop_eql (t := 27) ?_) | (with_reducible refine stop_neq (t := 27) ?_) | (with_reducible refine stop_eql (t := 24) ?_) | (with_reducible refine stop_neq (t := 24) ?_) | (with_reducible refine stop_load (t := 36) ?_) | (with_reducible refine stop_look ?_) | (with_reducible refine stop_mput ?_) | (with_reducible refine stop_store (t := 3) ?_))) | skip)
            (first | ((with_reducible refine ⟨?_⟩); (with_reducible refine at_not ?_ ?_); (focus (go_simp; done)); go_wp2_with (first | (with_reducible refine stop_load (t := 30) ?_) | (with_reducible refine stop_store (t := 30) ?_) | (with_reducible refine stop_load (t := 33) ?_) | (with_reducible refine stop_store (t := 33) ?_) | (with_reducible refine stop_load (t := 39) ?_) | (with_reducible refine stop_store (t := 39) ?_) | (with_reducible refine stop_load (t := 27) ?_) | (with_reducible refine stop_store (t := 27) ?_) | (with_reducible refine stop_load (t := 24) ?_) | (with_reducible refine stop_store (t := 24) ?_) | (with_reducible refine stop_build ?_) | (with_reducible refine stop_eql (t := 27) ?_) | (with_reducible refine stop_neq (t := 27) ?_) | (with_reducible refine stop_eql (t := 24) ?_) | (with_reducible refine stop_neq (t := 24) ?_) | (with_reducible refine stop_load (t := 36) ?_) | (with_reducible refine stop_look ?_) | (with_reducible refine stop_mput ?_) | (with_reducible refine stop_store (t := 3) ?_))) | skip)
            (with_reducible refine ⟨?_⟩); (with_reducible refine at_any ?_ ?_); (focus go_simp); refine fun K0 hK => ld_v _ _ v' rfl rfl g8V.out (hK _ _ ?_)
            clear hK
            go_wp2_with (first | (with_reducible refine stop_load (t := 30) ?_) | (with_reducible refine stop_store (t := 30) ?_) | (with_reducible refine stop_load (t := 33) ?_) | (with_reducible refine stop_store (t := 33) ?_) | (with_reducible refine stop_load (t := 39) ?_) | (with_reducible refine stop_store (t := 39) ?_) | (with_reducible refine stop_load (t := 27) ?_) | (with_reducible refine stop_store (t := 27) ?_) | (with_reducible refine stop_load (t := 24) ?_) | (with_reducible refine stop_store (t := 24) ?_) | (with_reducible refine stop_build ?_) | (with_reducible refine stop_eql (t := 27) ?_) | (with_reducible refine stop_neq (t := 27) ?_) | (with_reducible refine stop_eql (t := 24) ?_) | (with_reducible refine stop_neq (t := 24) ?_) | (with_reducible refine stop_load (t := 36) ?_) | (with_reducible refine stop_look ?_) | (with_reducible refine stop_mput ?_) | (with_reducible refine stop_store (t := 3) ?_))
            (with_reducible refine ⟨?_⟩); (with_reducible refine at_any ?_ ?_); (focus go_simp); refine fun K0 hK => st_v _ _ B v' rfl rfl rfl VI1.out.ok V0.out.2 (by rw [List.size_toArray, Vt.len V0.out.1]) (fun w20 hd ho => hK _ _ ?_)
            clear hK
            replace V0 := Lib.hid hd
            have VN2 := Lib.hid (show VN w20 (m + 2) v' from ⟨VI1.out.ok, VN1.out.only ho (by omega)⟩)
            replace M1 := Lib.hid (ho.mb M1.out (by omega))
            replace M2 := Lib.hid (ho.mb M2.out (by omega))
            replace BW := Lib.hid (ho.below w.heap.size (by rw [← HB.out]; exact Nat.le_refl _) w BW.out)
            have IV2 : Hid (Inv v'.ct fw (fun i => if i = v.gen + 1 then q7.lim else fl i) ov) := Lib.hid (by rw [VC.out]; exact IV.out.fresh (by rw [← VC.out]; exact KP1.out))
            clear hd ho q0c q22 r0 r5 r6 r7
            go_wp2_with (first | (with_reducible refine stop_load (t := 30) ?_) | (with_reducible refine stop_store (t := 30) ?_) | (with_reducible refine stop_load (t := 33) ?_) | (with_reducible refine stop_store (t := 33) ?_) | (with_reducible refine stop_load (t := 39) ?_) | (with_reducible refine stop_store (t := 39) ?_) | (with_reducible refine stop_load (t := 27) ?_) | (with_reducible refine stop_store (t := 27) ?_) | (with_reducible refine stop_load (t := 24) ?_) | (with_reducible refine stop_store (t := 24) ?_) | (with_reducible refine stop_build ?_) | (with_reducible refine stop_eql (t := 27) ?_) | (with_reducible refine stop_neq (t := 27) ?_) | (with_reducible refine stop_eql (t := 24) ?_) | (with_reducible refine stop_neq (t := 24) ?_) | (with_reducible refine stop_load (t := 36) ?_) | (with_reducible refine stop_look ?_) | (with_reducible refine stop_mput ?_) | (with_reducible refine stop_store (t := 3) ?_))
            go_roundw
            case rel => exact ⟨k + 1, v', _, _, _, n1, (n2 + 1), by omega, by omega, rfl, by go_num, by omega, by omega, V0, VN2, IV2, M1, M2, BW⟩
            case measure => simp [intOf]; omega
          · have HO : Hid (q7.op = 3) := Lib.hid hq1
            clear hq1
            obtain ⟨q0c, q21, q22, q55, q56⟩ := Q1.out.cells
            obtain ⟨r0, r5, r6, r7, r8, r9⟩ := g8R.out.cells
            obtain ⟨v4, v21, v22, v23, v40, v41⟩ := V0.out.cells
            obtain ⟨n4, n21, n22, n23, n40, n41⟩ := g8V.out.cells
            unfold Pt.V at r7
            rw [show r.why = 0 from RW.out] at r0
            clear q21 q55 q56 r8 r9 v21 v22 v23 v40 v41 n4 n21 n22 n23 n40 n41 v4
            rw [show q7.op = 3 from HO.out] at q0c
            have rl : r.sec.l.length = 0 := by rw [show r.sec.l = [] from RS.out]; rfl
            rw [rl] at r7
            clear rl
            rw [show r.gen = v.gen + 1 from RG.out] at r5
            go_wp2_with (first | (with_reducible refine stop_load (t := 30) ?_) | (with_reducible refine stop_store (t := 30) ?_) | (with_reducible refine stop_load (t := 33) ?_) | (with_reducible refine stop_store (t := 33) ?_) | (with_reducible refine stop_load (t := 39) ?_) | (with_reducible refine stop_store (t := 39) ?_) | (with_reducible refine stop_load (t := 27) ?_) | (with_reducible refine stop_store (t := 27) ?_) | (with_reducible refine stop_load (t := 24) ?_) | (with_reducible refine stop_store (t := 24) ?_) | (with_reducible refine stop_build ?_) | (with_reducible refine stop_eql (t := 27) ?_) | (with_reducible refine stop_neq (t := 27) ?_) | (with_reducible refine stop_eql (t := 24) ?_) | (with_reducible refine stop_neq (t := 24) ?_) | (with_reducible refine stop_load (t := 36) ?_) | (with_reducible refine stop_look ?_) | (with_reducible refine stop_mput ?_) | (with_reducible refine stop_store (t := 3) ?_))
            (first | ((with_reducible refine ⟨?_⟩); (with_reducible refine at_not ?_ ?_); (focus (go_simp; done)); go_wp2_with (first | (with_reducible refine stop_load (t := 30) ?_) | (with_reducible refine stop_store (t := 30) ?_) | (with_reducible refine stop_load (t := 33) ?_) | (with_reducible refine stop_store (t := 33) ?_) | (with_reducible refine stop_load (t := 39) ?_) | (with_reducible refine stop_store (t := 39) ?_) | (with_reducible refine stop_load (t := 27) ?_) | (with_reducible refine stop_store (t := 27) ?_) | (with_reducible refine stop_load (t := 24) ?_) | (with_reducible refine stop_store (t := 24) ?_) | (with_reducible refine stop_build ?_) | (with_reducible refine stop_eql (t := 27) ?_) | (with_reducible refine stop_neq (t := 27) ?_) | (with_reducible refine stop_eql (t := 24) ?_) | (with_reducible refine stop_neq (t := 24) ?_) | (with_reducible refine stop_load (t := 36) ?_) | (with_reducible refine stop_look ?_) | (with_reducible refine stop_mput ?_) | (with_reducible refine stop_store (t := 3) ?_))) | skip)
            (first | ((with_reducible refine ⟨?_⟩); (with_reducible refine at_not ?_ ?_); (focus (go_simp; done)); go_wp2_with (first | (with_reducible refine stop_load (t := 30) ?_) | (with_reducible refine stop_store (t := 30) ?_) | (with_reducible refine stop_load (t := 33) ?_) | (with_reducible refine stop_store (t := 33) ?_) | (with_reducible refine stop_load (t := 39) ?_) | (with_reducible refine stop_store (t := 39) ?_) | (with_reducible refine stop_load (t := 27) ?_) | (with_reducible refine stop_store (t := 27) ?_) | (with_reducible refine stop_load (t := 24) ?_) | (with_reducible refine stop_store (t := 24) ?_) | (with_reducible refine stop_build ?_) | (with_reducible refine stop_eql (t := 27) ?_) | (with_reducible refine stop_neq (t := 27) ?_) | (with_reducible refine stop_eql (t := 24) ?_) | (with_reducible refine stop_neq (t := 24) ?_) | (with_reducible refine stop_load (t := 36) ?_) | (with_reducible refine stop_look ?_) | (with_reducible refine stop_mput ?_) | (with_reducible refine stop_store (t := 3) ?_))) | skip)
            (with_reducible refine ⟨?_⟩); (with_reducible refine at_any ?_ ?_); (focus go_simp); refine fun K0 hK => wp_look _ _ rfl (m + 1) n2 fl (v.gen + 1) 0 rfl rfl M2.out (by omega) (by omega) L0.out (hK _ _ ?_)
            clear hK
            go_wp2_with (first | (with_reducible refine stop_load (t := 30) ?_) | (with_reducible refine stop_store (t := 30) ?_) | (with_reducible refine stop_load (t := 33) ?_) | (with_reducible refine stop_store (t := 33) ?_) | (with_reducible refine stop_load (t := 39) ?_) | (with_reducible refine stop_store (t := 39) ?_) | (with_reducible refine stop_load (t := 27) ?_) | (with_reducible refine stop_store (t := 27) ?_) | (with_reducible refine stop_load (t := 24) ?_) | (with_reducible refine stop_store (t := 24) ?_) | (with_reducible refine stop_build ?_) | (with_reducible refine stop_eql (t := 27) ?_) | (with_reducible refine stop_neq (t := 27) ?_) | (with_reducible refine stop_eql (t := 24) ?_) | (with_reducible refine stop_neq (t := 24) ?_) | (with_reducible refine stop_load (t := 36) ?_) | (with_reducible refine stop_look ?_) | (with_reducible refine stop_mput ?_) | (with_reducible refine stop_store (t := 3) ?_))
            (with_reducible refine ⟨?_⟩); (with_reducible refine at_any ?_ ?_); (focus go_simp); refine fun K0 hK => wp_mput _ _ _ rfl (m + 1) n2 fl (v.gen + 1) q7.lim rfl rfl rfl M2.out (by omega) (by omega) (by omega) (by omega) (by omega) (fun w11 hm mk => hK _ _ ?_)
            clear hK
            have sb := SB.out
            have sz := SZ.out
            clear q0c q22 r0 r5 r6 r7
            replace V0 := Lib.hid (mk.vb V0.out (by omega))
            replace Q1 := Lib.hid (mk.qb Q1.out (by omega))
            replace g8V := Lib.hid (mk.vb g8V.out (by omega))
            replace g8R := Lib.hid (mk.rb g8R.out (by omega))
            replace M1 := Lib.hid (mk.mb M1.out (by omega))
            replace M2 := Lib.hid hm
            have VN1' := Lib.hid (VN1.out.md mk (by omega))
            replace VI1 : Hid (VI w11 v') := Lib.hid ⟨VI1.out.ok, VN1'.out.1⟩
            replace VN1 := VN1'
            replace BW := Lib.hid (mk.below w.heap.size (by rw [← HB.out]; omega) w BW.out)
            clear hm mk sb sz VN1'
            obtain ⟨q0c, q21, q22, q55, q56⟩ := Q1.out.cells
            obtain ⟨r0, r5, r6, r7, r8, r9⟩ := g8R.out.cells
            obtain ⟨v4, v21, v22, v23, v40, v41⟩ := V0.out.cells
            obtain ⟨n4, n21, n22, n23, n40, n41⟩ := g8V.out.cells
            unfold Pt.V at r7
            rw [show r.why = 0 from RW.out] at r0
            clear q21 q55 q56 r8 r9 v21 v22 v23 v40 v41 n4 n21 n22 n23 n40 n41 v4
            rw [show q7.op = 3 from HO.out] at q0c
            have rl : r.sec.l.length = 0 := by rw [show r.sec.l = [] from RS.out]; rfl
            rw [rl] at r7
            clear rl
            rw [show r.gen = v.gen + 1 from RG.out] at r5
            go_wp2_with (first | (with_reducible refine stop_load (t := 30) ?_) | (with_reducible refine stop_store (t := 30) ?_) | (with_reducible refine stop_load (t := 33) ?_) | (with_reducible refine stop_store (t := 33) ?_) | (with_reducible refine stop_load (t := 39) ?_) | (with_reducible refine stop_store (t := 39) ?_) | (with_reducible refine stop_load (t := 27) ?_) | (with_reducible refine stop_store (t := 27) ?_) | (with_reducible refine stop_load (t := 24) ?_) | (with_reducible refine stop_store (t := 24) ?_) | (with_reducible refine stop_build ?_) | (with_reducible refine stop_eql (t := 27) ?_) | (with_reducible refine stop_neq (t := 27) ?_) | (with_reducible refine stop_eql (t := 24) ?_) | (with_reducible refine stop_neq (t := 24) ?_) | (with_reducible refine stop_load (t := 36) ?_) | (with_reducible refine stop_look ?_) | (with_reducible refine stop_mput ?_) | (with_reducible refine stop_store (t := 3) ?_))
            (first | ((with_reducible refine ⟨?_⟩); (with_reducible refine at_not ?_ ?_); (focus (go_simp; done)); go_wp2_with (first | (with_reducible refine stop_load (t := 30) ?_) | (with_reducible refine stop_store (t := 30) ?_) | (with_reducible refine stop_load (t := 33) ?_) | (with_reducible refine stop_store (t := 33) ?_) | (with_reducible refine stop_load (t := 39) ?_) | (with_reducible refine stop_store (t := 39) ?_) | (with_reducible refine stop_load (t := 27) ?_) | (with_reducible refine stop_store (t := 27) ?_) | (with_reducible refine stop_load (t := 24) ?_) | (with_reducible refine stop_store (t := 24) ?_) | (with_reducible refine stop_build ?_) | (with_reducible refine stop_eql (t := 27) ?_) | (with_reducible refine stop_neq (t := 27) ?_) | (with_reducible refine stop_eql (t := 24) ?_) | (with_reducible refine stop_neq (t := 24) ?_) | (with_reducible refine stop_load (t := 36) ?_) | (with_reducible refine stop_look ?_) | (with_reducible refine stop_mput ?_) | (with_reducible refine stop_store (t := 3) ?_))) | skip)
            (first | ((with_reducible refine ⟨?_⟩); (with_reducible refine at_not ?_ ?_); (focus (go_simp; done)); go_wp2_with (first | (with_reducible refine stop_load (t := 30) ?_) | (with_reducible refine stop_store (t := 30) ?_) | (with_reducible refine stop_load (t := 33) ?_) | (with_reducible refine stop_store (t := 33) ?_) | (with_reducible refine stop_load (t := 39) ?_) | (with_reducible refine stop_store (t := 39) ?_) | (with_reducible refine stop_load (t := 27) ?_) | (with_reducible refine stop_store (t := 27) ?_) | (with_reducible refine stop_load (t := 24) ?_) | (with_reducible refine stop_store (t := 24) ?_) | (with_reducible refine stop_build ?_) | (with_reducible refine stop_eql (t := 27) ?_) | (with_reducible refine stop_neq (t := 27) ?_) | (with_reducible refine stop_eql (t := 24) ?_) | (with_reducible refine stop_neq (t := 24) ?_) | (with_reducible refine stop_load (t := 36) ?_) | (with_reducible refine stop_look ?_) | (with_reducible refine stop_mput ?_) | (with_reducible refine stop_store (t := 3) ?_))) | skip)
            (first | ((with_reducible refine ⟨?_⟩); (with_reducible refine at_not ?_ ?_); (focus (go_simp; done)); go_wp2_with (first | (with_reducible refine stop_load (t := 30) ?_) | (with_reducible refine stop_store (t := 30) ?_) | (with_reducible refine stop_load (t := 33) ?_) | (with_reducible refine stop_store (t := 33) ?_) | (with_reducible refine stop_load (t := 39) ?_) | (with_reducible refine stop_store (t := 39) ?_) | (with_reducible refine stop_load (t := 27) ?_) | (with_reducible refine stop_store (t := 27) ?_) | (with_reducible refine stop_load (t := 24) ?_) | (with_reducible refine stop_store (t := 24) ?_) | (with_reducible refine stop_build ?_) | (with_reducible refine stop_eql (t := 27) ?_) | (with_reducible refine stop_neq (t := 27) ?_) | (with_reducible refine stop_eql (t := 24) ?_) | (with_reducible refine stop_neq (t := 24) ?_) | (with_reducible refine stop_load (t := 36) ?_) | (with_reducible refine stop_look ?_) | (with_reducible refine stop_mput ?_) | (with_reducible refine stop_store (t := 3) ?_))) | skip)
            (with_reducible refine ⟨?_⟩); (with_reducible refine at_any ?_ ?_); (focus go_simp); refine fun K0 hK => ld_v _ _ v' rfl rfl g8V.out (hK _ _ ?_)
            clear hK
            go_wp2_with (first | (with_reducible refine stop_load (t := 30) ?_) | (with_reducible refine stop_store (t := 30) ?_) | (with_reducible refine stop_load (t := 33) ?_) | (with_reducible refine stop_store (t := 33) ?_) | (with_reducible refine stop_load (t := 39) ?_) | (with_reducible refine stop_store (t := 39) ?_) | (with_reducible refine stop_load (t := 27) ?_) | (with_reducible refine stop_store (t := 27) ?_) | (with_reducible refine stop_load (t := 24) ?_) | (with_reducible refine stop_store (t := 24) ?_) | (with_reducible refine stop_build ?_) | (with_reducible refine stop_eql (t := 27) ?_) | (with_reducible refine stop_neq (t := 27) ?_) | (with_reducible refine stop_eql (t := 24) ?_) | (with_reducible refine stop_neq (t := 24) ?_) | (with_reducible refine stop_load (t := 36) ?_) | (with_reducible refine stop_look ?_) | (with_reducible refine stop_mput ?_) | (with_reducible refine stop_store (t := 3) ?_))
            (with_reducible refine ⟨?_⟩); (with_reducible refine at_any ?_ ?_); (focus go_simp); refine fun K0 hK => st_v _ _ B v' rfl rfl rfl VI1.out.ok V0.out.2 (by rw [List.size_toArray, Vt.len V0.out.1]) (fun w20 hd ho => hK _ _ ?_)
            clear hK
            replace V0 := Lib.hid hd
            have VN2 := Lib.hid (show VN w20 (m + 2) v' from ⟨VI1.out.ok, VN1.out.only ho (by omega)⟩)
            replace M1 := Lib.hid (ho.mb M1.out (by omega))
            replace M2 := Lib.hid (ho.mb M2.out (by omega))
            replace BW := Lib.hid (ho.below w.heap.size (by rw [← HB.out]; exact Nat.le_refl _) w BW.out)
            have IV2 : Hid (Inv v'.ct fw (fun i => if i = v.gen + 1 then q7.lim else fl i) ov) := Lib.hid (by rw [VC.out]; exact IV.out.fresh (by rw [← VC.out]; exact KP1.out))
            clear hd ho q0c q22 r0 r5 r6 r7
            go_wp2_with (first | (with_reducible refine stop_load (t := 30) ?_) | (with_reducible refine stop_store (t := 30) ?_) | (with_reducible refine stop_load (t := 33) ?_) | (with_reducible refine stop_store (t := 33) ?_) | (with_reducible refine stop_load (t := 39) ?_) | (with_reducible refine stop_store (t := 39) ?_) | (with_reducible refine stop_load (t := 27) ?_) | (with_reducible refine stop_store (t := 27) ?_) | (with_reducible refine stop_load (t := 24) ?_) | (with_reducible refine stop_store (t := 24) ?_) | (with_reducible refine stop_build ?_) | (with_reducible refine stop_eql (t := 27) ?_) | (with_reducible refine stop_neq (t := 27) ?_) | (with_reducible refine stop_eql (t := 24) ?_) | (with_reducible refine stop_neq (t := 24) ?_) | (with_reducible refine stop_load (t := 36) ?_) | (with_reducible refine stop_look ?_) | (with_reducible refine stop_mput ?_) | (with_reducible refine stop_store (t := 3) ?_))
            go_roundw
            case rel => exact ⟨k + 1, v', _, _, _, n1, (n2 + 1), by omega, by omega, rfl, by go_num, by omega, by omega, V0, VN2, IV2, M1, M2, BW⟩
            case measure => simp [intOf]; omega
        | refused e h0 h23 =>
          have HE0 := Lib.hid h0
          have HE23 := Lib.hid h23
          clear h0 h23
          have VC := Lib.hid hvc
          have RW := Lib.hid (congrArg (·.why) hrc)
          have RG := Lib.hid (congrArg (·.gen) hrc)
          have RS := Lib.hid (congrArg (·.sec) hrc)
          have RL := Lib.hid (congrArg (·.left) hrc)
          clear hvc hrc
          go_wp2_with (first | (with_reducible refine stop_load (t := 30) ?_) | (with_reducible refine stop_store (t := 30) ?_) | (with_reducible refine stop_load (t := 33) ?_) | (with_reducible refine stop_store (t := 33) ?_) | (with_reducible refine stop_load (t := 39) ?_) | (with_reducible refine stop_store (t := 39) ?_) | (with_reducible refine stop_load (t := 27) ?_) | (with_reducible refine stop_store (t := 27) ?_) | (with_reducible refine stop_load (t := 24) ?_) | (with_reducible refine stop_store (t := 24) ?_) | (with_reducible refine stop_build ?_) | (with_reducible refine stop_eql (t := 27) ?_) | (with_reducible refine stop_neq (t := 27) ?_) | (with_reducible refine stop_eql (t := 24) ?_) | (with_reducible refine stop_neq (t := 24) ?_) | (with_reducible refine stop_load (t := 36) ?_) | (with_reducible refine stop_look ?_) | (with_reducible refine stop_mput ?_) | (with_reducible refine stop_store (t := 3) ?_))
          (with_reducible refine ⟨?_⟩); (with_reducible refine at_any ?_ ?_); (focus go_simp); refine fun K0 hK => st_v _ _ w8.heap.size v' rfl rfl rfl VI1.out.ok ((Bk.new rfl _ _).more _) (by rfl) (fun w9 d1 o1 => hK _ _ ?_)
          clear hK
          have Y1 : Hid (Bk w9 (w8.heap.size + 1) 39 zeroRt.C.toArray) := Lib.hid (o1.bk (Bk.new (by simp) _ _) (by omega))
          have D1 := Lib.hid d1
          have O1 := Lib.hid o1
          clear d1 o1
          go_wp2_with (first | (with_reducible refine stop_load (t := 30) ?_) | (with_reducible refine stop_store (t := 30) ?_) | (with_reducible refine stop_load (t := 33) ?_) | (with_reducible refine stop_store (t := 33) ?_) | (with_reducible refine stop_load (t := 39) ?_) | (with_reducible refine stop_store (t := 39) ?_) | (with_reducible refine stop_load (t := 27) ?_) | (with_reducible refine stop_store (t := 27) ?_) | (with_reducible refine stop_load (t := 24) ?_) | (with_reducible refine stop_store (t := 24) ?_) | (with_reducible refine stop_build ?_) | (with_reducible refine stop_eql (t := 27) ?_) | (with_reducible refine stop_neq (t := 27) ?_) | (with_reducible refine stop_eql (t := 24) ?_) | (with_reducible refine stop_neq (t := 24) ?_) | (with_reducible refine stop_load (t := 36) ?_) | (with_reducible refine stop_look ?_) | (with_reducible refine stop_mput ?_) | (with_reducible refine stop_store (t := 3) ?_))
          (with_reducible refine ⟨?_⟩); (with_reducible refine at_any ?_ ?_); (focus go_simp); refine fun K0 hK => st_r _ _ (w8.heap.size + 1) r rfl rfl rfl RO.out Y1.out (by rfl) (fun w10 d2 o2 => hK _ _ ?_)
          clear hK
          obtain ⟨gv, gr, xx⟩ := pair_facts O1.out D1.out o2 d2
          clear D1 O1 Y1 o2 d2
          replace V0 := Lib.hid (V0.out.ext xx)
          replace Q1 := Lib.hid (Q1.out.ext xx)
          replace VN1 := Lib.hid (VN1.out.ext xx)
          replace VI1 := Lib.hid (VI1.out.ext xx)
          replace M1 := Lib.hid (M1.out.ext xx)
          replace M2 := Lib.hid (M2.out.ext xx)
          replace VN9 := Lib.hid (VN9.out.ext xx)
          replace BW := Lib.hid (Ex.trans BW.out xx)
          obtain ⟨g8, hgn⟩ : ∃ g, g = w8.heap.size := ⟨_, rfl⟩
          rw [← hgn] at gv gr ⊢
          have g8S := Lib.hid hgn
          have g8V := Lib.hid gv
          have g8R := Lib.hid gr
          clear gv gr xx hgn
          replace SB := Lib.hid (show m + 2 ≤ g8 by rw [g8S.out]; exact SB.out)
          clear g8S
          obtain ⟨q0c, q21, q22, q55, q56⟩ := Q1.out.cells
          obtain ⟨r0, r5, r6, r7, r8, r9⟩ := g8R.out.cells
          obtain ⟨v4, v21, v22, v23, v40, v41⟩ := V0.out.cells
          obtain ⟨n4, n21, n22, n23, n40, n41⟩ := g8V.out.cells
          unfold Pt.V at r7
          rw [show r.why = e from RW.out] at r0
          clear q21 q55 q56 r8 r9 v21 v22 v23 v40 v41 n4 n21 n22 n23 n40 n41 v4
          have rl : r.sec.l.length = 0 := by rw [show r.sec.l = [] from RS.out]; rfl
          rw [rl] at r7
          clear rl
          rw [show r.gen = v.gen from RG.out] at r5
          go_wp2_with (first | (with_reducible refine stop_load (t := 30) ?_) | (with_reducible refine stop_store (t := 30) ?_) | (with_reducible refine stop_load (t := 33) ?_) | (with_reducible refine stop_store (t := 33) ?_) | (with_reducible refine stop_load (t := 39) ?_) | (with_reducible refine stop_store (t := 39) ?_) | (with_reducible refine stop_load (t := 27) ?_) | (with_reducible refine stop_store (t := 27) ?_) | (with_reducible refine stop_load (t := 24) ?_) | (with_reducible refine stop_store (t := 24) ?_) | (with_reducible refine stop_build ?_) | (with_reducible refine stop_eql (t := 27) ?_) | (with_reducible refine stop_neq (t := 27) ?_) | (with_reducible refine stop_eql (t := 24) ?_) | (with_reducible refine stop_neq (t := 24) ?_) | (with_reducible refine stop_load (t := 36) ?_) | (with_reducible refine stop_look ?_) | (with_reducible refine stop_mput ?_) | (with_reducible refine stop_store (t := 3) ?_))
          (with_reducible refine ⟨?_⟩); (with_reducible refine at_any ?_ ?_); (focus go_simp); refine fun K0 hK => ld_v _ _ v' rfl rfl g8V.out (hK _ _ ?_)
          clear hK
          go_wp2_with (first | (with_reducible refine stop_load (t := 30) ?_) | (with_reducible refine stop_store (t := 30) ?_) | (with_reducible refine stop_load (t := 33) ?_) | (with_reducible refine stop_store (t := 33) ?_) | (with_reducible refine stop_load (t := 39) ?_) | (with_reducible refine stop_store (t := 39) ?_) | (with_reducible refine stop_load (t := 27) ?_) | (with_reducible refine stop_store (t := 27) ?_) | (with_reducible refine stop_load (t := 24) ?_) | (with_reducible refine stop_store (t := 24) ?_) | (with_reducible refine stop_build ?_) | (with_reducible refine stop_eql (t := 27) ?_) | (with_reducible refine stop_neq (t := 27) ?_) | (with_reducible refine stop_eql (t := 24) ?_) | (with_reducible refine stop_neq (t := 24) ?_) | (with_reducible refine stop_load (t := 36) ?_) | (with_reducible refine stop_look ?_) | (with_reducible refine stop_mput ?_) | (with_reducible refine stop_store (t := 3) ?_))
          (with_reducible refine ⟨?_⟩); (with_reducible refine at_any ?_ ?_); (focus go_simp); refine fun K0 hK => ld_v _ _ v rfl rfl V0.out (hK _ _ ?_)
          clear hK
          go_wp2_with (first | (with_reducible refine stop_load (t := 30) ?_) | (with_reducible refine stop_store (t := 30) ?_) | (with_reducible refine stop_load (t := 33) ?_) | (with_reducible refine stop_store (t := 33) ?_) | (with_reducible refine stop_load (t := 39) ?_) | (with_reducible refine stop_store (t := 39) ?_) | (with_reducible refine stop_load (t := 27) ?_) | (with_reducible refine stop_store (t := 27) ?_) | (with_reducible refine stop_load (t := 24) ?_) | (with_reducible refine stop_store (t := 24) ?_) | (with_reducible refine stop_build ?_) | (with_reducible refine stop_eql (t := 27) ?_) | (with_reducible refine stop_neq (t := 27) ?_) | (with_reducible refine stop_eql (t := 24) ?_) | (with_reducible refine stop_neq (t := 24) ?_) | (with_reducible refine stop_load (t := 36) ?_) | (with_reducible refine stop_look ?_) | (with_reducible refine stop_mput ?_) | (with_reducible refine stop_store (t := 3) ?_))
          refine (rsame_any v' v w10 VI1.out ⟨V0.out.1, VN9.out.2.1⟩).mono ?_
          rintro e2 w11 ⟨rfl, xx⟩
          rw [decide_eq_true VC.out]
          clear q0c q22 r0 r5 r6 r7
          replace V0 := Lib.hid (V0.out.ext xx)
          replace Q1 := Lib.hid (Q1.out.ext xx)
          replace VN1 := Lib.hid (VN1.out.ext xx)
          replace VI1 := Lib.hid (VI1.out.ext xx)
          replace M1 := Lib.hid (M1.out.ext xx)
          replace M2 := Lib.hid (M2.out.ext xx)
          replace VN9 := Lib.hid (VN9.out.ext xx)
          replace g8V := Lib.hid (g8V.out.ext xx)
          replace g8R := Lib.hid (g8R.out.ext xx)
          replace BW := Lib.hid (Ex.trans BW.out xx)
          clear xx
          obtain ⟨q0c, q21, q22, q55, q56⟩ := Q1.out.cells
          obtain ⟨r0, r5, r6, r7, r8, r9⟩ := g8R.out.cells
          obtain ⟨v4, v21, v22, v23, v40, v41⟩ := V0.out.cells
          obtain ⟨n4, n21, n22, n23, n40, n41⟩ := g8V.out.cells
          unfold Pt.V at r7
          rw [show r.why = e from RW.out] at r0
          clear q21 q55 q56 r8 r9 v21 v22 v23 v40 v41 n4 n21 n22 n23 n40 n41 v4
          have rl : r.sec.l.length = 0 := by rw [show r.sec.l = [] from RS.out]; rfl
          rw [rl] at r7
          clear rl
          rw [show r.gen = v.gen from RG.out] at r5
          go_wp2_with (first | (with_reducible refine stop_load (t := 30) ?_) | (with_reducible refine stop_store (t := 30) ?_) | (with_reducible refine stop_load (t := 33) ?_) | (with_reducible refine stop_store (t := 33) ?_) | (with_reducible refine stop_load (t := 39) ?_) | (with_reducible refine stop_store (t := 39) ?_) | (with_reducible refine stop_load (t := 27) ?_) | (with_reducible refine stop_store (t := 27) ?_) | (with_reducible refine stop_load (t := 24) ?_) | (with_reducible refine stop_store (t := 24) ?_) | (with_reducible refine stop_build ?_) | (with_reducible refine stop_eql (t := 27) ?_) | (with_reducible refine stop_neq (t := 27) ?_) | (with_reducible refine stop_eql (t := 24) ?_) | (with_reducible refine stop_neq (t := 24) ?_) | (with_reducible refine stop_load (t := 36) ?_) | (with_reducible refine stop_look ?_) | (with_reducible refine stop_mput ?_) | (with_reducible refine stop_store (t := 3) ?_) | (with_reducible refine stop_eql (t := 37) ?_))
          (with_reducible refine ⟨?_⟩); (with_reducible refine at_any ?_ ?_); (focus go_simp); refine fun K0 hK => wp_eql_err _ _ _ rfl e 0 rfl rfl (hK _ _ ?_)
          clear hK
          rw [decide_eq_false HE0.out]
          go_wp2_with (first | (with_reducible refine stop_load (t := 30) ?_) | (with_reducible refine stop_store (t := 30) ?_) | (with_reducible refine stop_load (t := 33) ?_) | (with_reducible refine stop_store (t := 33) ?_) | (with_reducible refine stop_load (t := 39) ?_) | (with_reducible refine stop_store (t := 39) ?_) | (with_reducible refine stop_load (t := 27) ?_) | (with_reducible refine stop_store (t := 27) ?_) | (with_reducible refine stop_load (t := 24) ?_) | (with_reducible refine stop_store (t := 24) ?_) | (with_reducible refine stop_build ?_) | (with_reducible refine stop_eql (t := 27) ?_) | (with_reducible refine stop_neq (t := 27) ?_) | (with_reducible refine stop_eql (t := 24) ?_) | (with_reducible refine stop_neq (t := 24) ?_) | (with_reducible refine stop_load (t := 36) ?_) | (with_reducible refine stop_look ?_) | (with_reducible refine stop_mput ?_) | (with_reducible refine stop_store (t := 3) ?_) | (with_reducible refine stop_eql (t := 37) ?_))
          (with_reducible refine ⟨?_⟩); (with_reducible refine at_any ?_ ?_); (focus go_simp); refine fun K0 hK => wp_eql_err _ _ _ rfl e 23 rfl rfl (hK _ _ ?_)
          clear hK
          rw [decide_eq_false HE23.out]
          go_wp2_with (first | (with_reducible refine stop_load (t := 30) ?_) | (with_reducible refine stop_store (t := 30) ?_) | (with_reducible refine stop_load (t := 33) ?_) | (with_reducible refine stop_store (t := 33) ?_) | (with_reducible refine stop_load (t := 39) ?_) | (with_reducible refine stop_store (t := 39) ?_) | (with_reducible refine stop_load (t := 27) ?_) | (with_reducible refine stop_store (t := 27) ?_) | (with_reducible refine stop_load (t := 24) ?_) | (with_reducible refine stop_store (t := 24) ?_) | (with_reducible refine stop_build ?_) | (with_reducible refine stop_eql (t := 27) ?_) | (with_reducible refine stop_neq (t := 27) ?_) | (with_reducible refine stop_eql (t := 24) ?_) | (with_reducible refine stop_neq (t := 24) ?_) | (with_reducible refine stop_load (t := 36) ?_) | (with_reducible refine stop_look ?_) | (with_reducible refine stop_mput ?_) | (with_reducible refine stop_store (t := 3) ?_))
          (first | ((with_reducible refine ⟨?_⟩); (with_reducible refine at_not ?_ ?_); (focus (go_simp; done)); go_wp2_with (first | (with_reducible refine stop_load (t := 30) ?_) | (with_reducible refine stop_store (t := 30) ?_) | (with_reducible refine stop_load (t := 33) ?_) | (with_reducible refine stop_store (t := 33) ?_) | (with_reducible refine stop_load (t := 39) ?_) | (with_reducible refine stop_store (t := 39) ?_) | (with_reducible refine stop_load (t := 27) ?_) | (with_reducible refine stop_store (t := 27) ?_) | (with_reducible refine stop_load (t := 24) ?_) | (with_reducible refine stop_store (t := 24) ?_) | (with_reducible refine stop_build ?_) | (with_reducible refine stop_eql (t := 27) ?_) | (with_reducible refine stop_neq (t := 27) ?_) | (with_reducible refine stop_eql (t := 24) ?_) | (with_reducible refine stop_neq (t := 24) ?_) | (with_reducible refine stop_load (t := 36) ?_) | (with_reducible refine stop_look ?_) | (with_reducible refine stop_mput ?_) | (with_reducible refine stop_store (t := 3) ?_))) | skip)
          (first | ((with_reducible refine ⟨?_⟩); (with_reducible refine at_not ?_ ?_); (focus (go_simp; done)); go_wp2_with (first | (with_reducible refine stop_load (t := 30) ?_) | (with_reducible refine stop_store (t := 30) ?_) | (with_reducible refine stop_load (t := 33) ?_) | (with_reducible refine stop_store (t := 33) ?_) | (with_reducible refine stop_load (t := 39) ?_) | (with_reducible refine stop_store (t := 39) ?_) | (with_reducible refine stop_load (t := 27) ?_) | (with_reducible refine stop_store (t := 27) ?_) | (with_reducible refine stop_load (t := 24) ?_) | (with_reducible refine stop_store (t := 24) ?_) | (with_reducible refine stop_build ?_) | (with_reducible refine stop_eql (t := 27) ?_) | (with_reducible refine stop_neq (t := 27) ?_) | (with_reducible refine stop_eql (t := 24) ?_) | (with_reducible refine stop_neq (t := 24) ?_) | (with_reducible refine stop_load (t := 36) ?_) | (with_reducible refine stop_look ?_) | (with_reducible refine stop_mput ?_) | (with_reducible refine stop_store (t := 3) ?_))) | skip)
          (first | ((with_reducible refine ⟨?_⟩); (with_reducible refine at_not ?_ ?_); (focus (go_simp; done)); go_wp2_with (first | (with_reducible refine stop_load (t := 30) ?_) | (with_reducible refine stop_store (t := 30) ?_) | (with_reducible refine stop_load (t := 33) ?_) | (with_reducible refine stop_store (t := 33) ?_) | (with_reducible refine stop_load (t := 39) ?_) | (with_reducible refine stop_store (t := 39) ?_) | (with_reducible refine stop_load (t := 27) ?_) | (with_reducible refine stop_store (t := 27) ?_) | (with_reducible refine stop_load (t := 24) ?_) | (with_reducible refine stop_store (t := 24) ?_) | (with_reducible refine stop_build ?_) | (with_reducible refine stop_eql (t := 27) ?_) | (with_reducible refine stop_neq (t := 27) ?_) | (with_reducible refine stop_eql (t := 24) ?_) | (with_reducible refine stop_neq (t := 24) ?_) | (with_reducible refine stop_load (t := 36) ?_) | (with_reducible refine stop_look ?_) | (with_reducible refine stop_mput ?_) | (with_reducible refine stop_store (t := 3) ?_))) | skip)
          (with_reducible refine ⟨?_⟩); (with_reducible refine at_any ?_ ?_); (focus go_simp); refine fun K0 hK => ld_v _ _ v' rfl rfl g8V.out (hK _ _ ?_)
          clear hK
          go_wp2_with (first | (with_reducible refine stop_load (t := 30) ?_) | (with_reducible refine stop_store (t := 30) ?_) | (with_reducible refine stop_load (t := 33) ?_) | (with_reducible refine stop_store (t := 33) ?_) | (with_reducible refine stop_load (t := 39) ?_) | (with_reducible refine stop_store (t := 39) ?_) | (with_reducible refine stop_load (t := 27) ?_) | (with_reducible refine stop_store (t := 27) ?_) | (with_reducible refine stop_load (t := 24) ?_) | (with_reducible refine stop_store (t := 24) ?_) | (with_reducible refine stop_build ?_) | (with_reducible refine stop_eql (t := 27) ?_) | (with_reducible refine stop_neq (t := 27) ?_) | (with_reducible refine stop_eql (t := 24) ?_) | (with_reducible refine stop_neq (t := 24) ?_) | (with_reducible refine stop_load (t := 36) ?_) | (with_reducible refine stop_look ?_) | (with_reducible refine stop_mput ?_) | (with_reducible refine stop_store (t := 3) ?_))
          (with_reducible refine ⟨?_⟩); (with_reducible refine at_any ?_ ?_); (focus go_simp); refine fun K0 hK => st_v _ _ B v' rfl rfl rfl VI1.out.ok V0.out.2 (by rw [List.size_toArray, Vt.len V0.out.1]) (fun w20 hd ho => hK _ _ ?_)
          clear hK
          replace V0 := Lib.hid hd
          have VN2 := Lib.hid (show VN w20 (m + 2) v' from ⟨VI1.out.ok, VN1.out.only ho (by omega)⟩)
          replace M1 := Lib.hid (ho.mb M1.out (by omega))
          replace M2 := Lib.hid (ho.mb M2.out (by omega))
          replace BW := Lib.hid (ho.below w.heap.size (by rw [← HB.out]; exact Nat.le_refl _) w BW.out)
          have IV2 : Hid (Inv v'.ct fw fl ov) := Lib.hid (by rw [VC.out]; exact IV.out)
          clear hd ho q0c q22 r0 r5 r6 r7
          go_wp2_with (first | (with_reducible refine stop_load (t := 30) ?_) | (with_reducible refine stop_store (t := 30) ?_) | (with_reducible refine stop_load (t := 33) ?_) | (with_reducible refine stop_store (t := 33) ?_) | (with_reducible refine stop_load (t := 39) ?_) | (with_reducible refine stop_store (t := 39) ?_) | (with_reducible refine stop_load (t := 27) ?_) | (with_reducible refine stop_store (t := 27) ?_) | (with_reducible refine stop_load (t := 24) ?_) | (with_reducible refine stop_store (t := 24) ?_) | (with_reducible refine stop_build ?_) | (with_reducible refine stop_eql (t := 27) ?_) | (with_reducible refine stop_neq (t := 27) ?_) | (with_reducible refine stop_eql (t := 24) ?_) | (with_reducible refine stop_neq (t := 24) ?_) | (with_reducible refine stop_load (t := 36) ?_) | (with_reducible refine stop_look ?_) | (with_reducible refine stop_mput ?_) | (with_reducible refine stop_store (t := 3) ?_))
          go_roundw
          case rel => exact ⟨k + 1, v', _, _, _, n1, n2, by omega, by omega, rfl, by go_num, by omega, by omega, V0, VN2, IV2, M1, M2, BW⟩
          case measure => simp [intOf]; omega
        | told ho hv hg hp =>
          have HO : Hid (q7.op = 2) := Lib.hid ho
          have HP := Lib.hid hp
          have OVN := Lib.hid (IV.out.now hv hg).1
          clear ho hv hg hp
          have VC := Lib.hid hvc
          have RW := Lib.hid (congrArg (·.why) hrc)
          have RG := Lib.hid (congrArg (·.gen) hrc)
          have RS := Lib.hid (congrArg (·.sec) hrc)
          have RL := Lib.hid (congrArg (·.left) hrc)
          clear hvc hrc
          go_wp2_with (first | (with_reducible refine stop_load (t := 30) ?_) | (with_reducible refine stop_store (t := 30) ?_) | (with_reducible refine stop_load (t := 33) ?_) | (with_reducible refine stop_store (t := 33) ?_) | (with_reducible refine stop_load (t := 39) ?_) | (with_reducible refine stop_store (t := 39) ?_) | (with_reducible refine stop_load (t := 27) ?_) | (with_reducible refine stop_store (t := 27) ?_) | (with_reducible refine stop_load (t := 24) ?_) | (with_reducible refine stop_store (t := 24) ?_) | (with_reducible refine stop_build ?_) | (with_reducible refine stop_eql (t := 27) ?_) | (with_reducible refine stop_neq (t := 27) ?_) | (with_reducible refine stop_eql (t := 24) ?_) | (with_reducible refine stop_neq (t := 24) ?_) | (with_reducible refine stop_load (t := 36) ?_) | (with_reducible refine stop_look ?_) | (with_reducible refine stop_mput ?_) | (with_reducible refine stop_store (t := 3) ?_))
          (with_reducible refine ⟨?_⟩); (with_reducible refine at_any ?_ ?_); (focus go_simp); refine fun K0 hK => st_v _ _ w8.heap.size v' rfl rfl rfl VI1.out.ok ((Bk.new rfl _ _).more _) (by rfl) (fun w9 d1 o1 => hK _ _ ?_)
          clear hK
          have Y1 : Hid (Bk w9 (w8.heap.size + 1) 39 zeroRt.C.toArray) := Lib.hid (o1.bk (Bk.new (by simp) _ _) (by omega))
          have D1 := Lib.hid d1
          have O1 := Lib.hid o1
          clear d1 o1
          go_wp2_with (first | (with_reducible refine stop_load (t := 30) ?_) | (with_reducible refine stop_store (t := 30) ?_) | (with_reducible refine stop_load (t := 33) ?_) | (with_reducible refine stop_store (t := 33) ?_) | (with_reducible refine stop_load (t := 39) ?_) | (with_reducible refine stop_store (t := 39) ?_) | (with_reducible refine stop_load (t := 27) ?_) | (with_reducible refine stop_store (t := 27) ?_) | (with_reducible refine stop_load (t := 24) ?_) | (with_reducible refine stop_store (t := 24) ?_) | (with_reducible refine stop_build ?_) | (with_reducible refine stop_eql (t := 27) ?_) | (with_reducible refine stop_neq (t := 27) ?_) | (with_reducible refine stop_eql (t := 24) ?_) | (with_reducible refine stop_neq (t := 24) ?_) | (with_reducible refine stop_load (t := 36) ?_) | (with_reducible refine stop_look ?_) | (with_reducible refine stop_mput ?_) | (with_reducible refine stop_store (t := 3) ?_))
          (with_reducible refine ⟨?_⟩); (with_reducible refine at_any ?_ ?_); (focus go_simp); refine fun K0 hK => st_r _ _ (w8.heap.size + 1) r rfl rfl rfl RO.out Y1.out (by rfl) (fun w10 d2 o2 => hK _ _ ?_)
          clear hK
          obtain ⟨gv, gr, xx⟩ := pair_facts O1.out D1.out o2 d2
          clear D1 O1 Y1 o2 d2
          replace V0 := Lib.hid (V0.out.ext xx)
          replace Q1 := Lib.hid (Q1.out.ext xx)
          replace VN1 := Lib.hid (VN1.out.ext xx)
          replace VI1 := Lib.hid (VI1.out.ext xx)
          replace M1 := Lib.hid (M1.out.ext xx)
          replace M2 := Lib.hid (M2.out.ext xx)
          replace VN9 := Lib.hid (VN9.out.ext xx)
          replace BW := Lib.hid (Ex.trans BW.out xx)
          obtain ⟨g8, hgn⟩ : ∃ g, g = w8.heap.size := ⟨_, rfl⟩
          rw [← hgn] at gv gr ⊢
          have g8S := Lib.hid hgn
          have g8V := Lib.hid gv
          have g8R := Lib.hid gr
          clear gv gr xx hgn
          replace SB := Lib.hid (show m + 2 ≤ g8 by rw [g8S.out]; exact SB.out)
          clear g8S
          obtain ⟨q0c, q21, q22, q55, q56⟩ := Q1.out.cells
          obtain ⟨r0, r5, r6, r7, r8, r9⟩ := g8R.out.cells
          obtain ⟨v4, v21, v22, v23, v40, v41⟩ := V0.out.cells
          obtain ⟨n4, n21, n22, n23, n40, n41⟩ := g8V.out.cells
          unfold Pt.V at r7
          rw [show r.why = 0 from RW.out] at r0
          clear q21 q55 q56 r8 r9 v21 v22 v23 v40 v41 n4 n21 n22 n23 n40 n41 v4
          rw [show q7.op = 2 from HO.out] at q0c
          rw [show r.gen = v.gen from RG.out] at r5
          go_wp2_with (first | (with_reducible refine stop_load (t := 30) ?_) | (with_reducible refine stop_store (t := 30) ?_) | (with_reducible refine stop_load (t := 33) ?_) | (with_reducible refine stop_store (t := 33) ?_) | (with_reducible refine stop_load (t := 39) ?_) | (with_reducible refine stop_store (t := 39) ?_) | (with_reducible refine stop_load (t := 27) ?_) | (with_reducible refine stop_store (t := 27) ?_) | (with_reducible refine stop_load (t := 24) ?_) | (with_reducible refine stop_store (t := 24) ?_) | (with_reducible refine stop_build ?_) | (with_reducible refine stop_eql (t := 27) ?_) | (with_reducible refine stop_neq (t := 27) ?_) | (with_reducible refine stop_eql (t := 24) ?_) | (with_reducible refine stop_neq (t := 24) ?_) | (with_reducible refine stop_load (t := 36) ?_) | (with_reducible refine stop_look ?_) | (with_reducible refine stop_mput ?_) | (with_reducible refine stop_store (t := 3) ?_))
          (with_reducible refine ⟨?_⟩); (with_reducible refine at_any ?_ ?_); (focus go_simp); refine fun K0 hK => ld_v _ _ v' rfl rfl g8V.out (hK _ _ ?_)
          clear hK
          go_wp2_with (first | (with_reducible refine stop_load (t := 30) ?_) | (with_reducible refine stop_store (t := 30) ?_) | (with_reducible refine stop_load (t := 33) ?_) | (with_reducible refine stop_store (t := 33) ?_) | (with_reducible refine stop_load (t := 39) ?_) | (with_reducible refine stop_store (t := 39) ?_) | (with_reducible refine stop_load (t := 27) ?_) | (with_reducible refine stop_store (t := 27) ?_) | (with_reducible refine stop_load (t := 24) ?_) | (with_reducible refine stop_store (t := 24) ?_) | (with_reducible refine stop_build ?_) | (with_reducible refine stop_eql (t := 27) ?_) | (with_reducible refine stop_neq (t := 27) ?_) | (with_reducible refine stop_eql (t := 24) ?_) | (with_reducible refine stop_neq (t := 24) ?_) | (with_reducible refine stop_load (t := 36) ?_) | (with_reducible refine stop_look ?_) | (with_reducible refine stop_mput ?_) | (with_reducible refine stop_store (t := 3) ?_))
          (with_reducible refine ⟨?_⟩); (with_reducible refine at_any ?_ ?_); (focus go_simp); refine fun K0 hK => ld_v _ _ v rfl rfl V0.out (hK _ _ ?_)
          clear hK
          go_wp2_with (first | (with_reducible refine stop_load (t := 30) ?_) | (with_reducible refine stop_store (t := 30) ?_) | (with_reducible refine stop_load (t := 33) ?_) | (with_reducible refine stop_store (t := 33) ?_) | (with_reducible refine stop_load (t := 39) ?_) | (with_reducible refine stop_store (t := 39) ?_) | (with_reducible refine stop_load (t := 27) ?_) | (with_reducible refine stop_store (t := 27) ?_) | (with_reducible refine stop_load (t := 24) ?_) | (with_reducible refine stop_store (t := 24) ?_) | (with_reducible refine stop_build ?_) | (with_reducible refine stop_eql (t := 27) ?_) | (with_reducible refine stop_neq (t := 27) ?_) | (with_reducible refine stop_eql (t := 24) ?_) | (with_reducible refine stop_neq (t := 24) ?_) | (with_reducible refine stop_load (t := 36) ?_) | (with_reducible refine stop_look ?_) | (with_reducible refine stop_mput ?_) | (with_reducible refine stop_store (t := 3) ?_))
          refine (rsame_any v' v w10 VI1.out ⟨V0.out.1, VN9.out.2.1⟩).mono ?_
          rintro e2 w11 ⟨rfl, xx⟩
          rw [decide_eq_true VC.out]
          clear q0c q22 r0 r5 r6 r7
          replace V0 := Lib.hid (V0.out.ext xx)
          replace Q1 := Lib.hid (Q1.out.ext xx)
          replace VN1 := Lib.hid (VN1.out.ext xx)
          replace VI1 := Lib.hid (VI1.out.ext xx)
          replace M1 := Lib.hid (M1.out.ext xx)
          replace M2 := Lib.hid (M2.out.ext xx)
          replace VN9 := Lib.hid (VN9.out.ext xx)
          replace g8V := Lib.hid (g8V.out.ext xx)
          replace g8R := Lib.hid (g8R.out.ext xx)
          replace BW := Lib.hid (Ex.trans BW.out xx)
          clear xx
          obtain ⟨q0c, q21, q22, q55, q56⟩ := Q1.out.cells
          obtain ⟨r0, r5, r6, r7, r8, r9⟩ := g8R.out.cells
          obtain ⟨v4, v21, v22, v23, v40, v41⟩ := V0.out.cells
          obtain ⟨n4, n21, n22, n23, n40, n41⟩ := g8V.out.cells
          unfold Pt.V at r7
          rw [show r.why = 0 from RW.out] at r0
          clear q21 q55 q56 r8 r9 v21 v22 v23 v40 v41 n4 n21 n22 n23 n40 n41 v4
          rw [show q7.op = 2 from HO.out] at q0c
          rw [show r.gen = v.gen from RG.out] at r5
          have hov : ¬ v.gen = ov := by have h : ov < v.gen := OVN.out; omega
          have hove := decide_eq_false hov
          clear hov
          by_cases hl : 0 < r.sec.l.length
          case pos =>
            have hl2 : (0 : Int) < (r.sec.l.length : Int) := by omega
            go_wp2_with (first | (with_reducible refine stop_load (t := 30) ?_) | (with_reducible refine stop_store (t := 30) ?_) | (with_reducible refine stop_load (t := 33) ?_) | (with_reducible refine stop_store (t := 33) ?_) | (with_reducible refine stop_load (t := 39) ?_) | (with_reducible refine stop_store (t := 39) ?_) | (with_reducible refine stop_load (t := 27) ?_) | (with_reducible refine stop_store (t := 27) ?_) | (with_reducible refine stop_load (t := 24) ?_) | (with_reducible refine stop_store (t := 24) ?_) | (with_reducible refine stop_build ?_) | (with_reducible refine stop_eql (t := 27) ?_) | (with_reducible refine stop_neq (t := 27) ?_) | (with_reducible refine stop_eql (t := 24) ?_) | (with_reducible refine stop_neq (t := 24) ?_) | (with_reducible refine stop_load (t := 36) ?_) | (with_reducible refine stop_look ?_) | (with_reducible refine stop_mput ?_) | (with_reducible refine stop_store (t := 3) ?_) | (with_reducible refine stop_eql (t := 25) ?_))
            (with_reducible refine ⟨?_⟩); (with_reducible refine at_any ?_ ?_); (focus go_simp); refine fun K0 hK => wp_eql_u64 _ _ _ rfl v.gen ov rfl rfl (hK _ _ ?_)
            clear hK
            rw [hove]
            clear hove
            go_wp2_with (first | (with_reducible refine stop_load (t := 30) ?_) | (with_reducible refine stop_store (t := 30) ?_) | (with_reducible refine stop_load (t := 33) ?_) | (with_reducible refine stop_store (t := 33) ?_) | (with_reducible refine stop_load (t := 39) ?_) | (with_reducible refine stop_store (t := 39) ?_) | (with_reducible refine stop_load (t := 27) ?_) | (with_reducible refine stop_store (t := 27) ?_) | (with_reducible refine stop_load (t := 24) ?_) | (with_reducible refine stop_store (t := 24) ?_) | (with_reducible refine stop_build ?_) | (with_reducible refine stop_eql (t := 27) ?_) | (with_reducible refine stop_neq (t := 27) ?_) | (with_reducible refine stop_eql (t := 24) ?_) | (with_reducible refine stop_neq (t := 24) ?_) | (with_reducible refine stop_load (t := 36) ?_) | (with_reducible refine stop_look ?_) | (with_reducible refine stop_mput ?_) | (with_reducible refine stop_store (t := 3) ?_))
            (with_reducible refine ⟨?_⟩); (with_reducible refine at_any ?_ ?_); (focus go_simp); refine fun K0 hK => ld_qpin _ _ q7 rfl rfl Q1.out (hK _ _ ?_)
            clear hK
            go_wp2_with (first | (with_reducible refine stop_load (t := 30) ?_) | (with_reducible refine stop_store (t := 30) ?_) | (with_reducible refine stop_load (t := 33) ?_) | (with_reducible refine stop_store (t := 33) ?_) | (with_reducible refine stop_load (t := 39) ?_) | (with_reducible refine stop_store (t := 39) ?_) | (with_reducible refine stop_load (t := 27) ?_) | (with_reducible refine stop_store (t := 27) ?_) | (with_reducible refine stop_load (t := 24) ?_) | (with_reducible refine stop_store (t := 24) ?_) | (with_reducible refine stop_build ?_) | (with_reducible refine stop_eql (t := 27) ?_) | (with_reducible refine stop_neq (t := 27) ?_) | (with_reducible refine stop_eql (t := 24) ?_) | (with_reducible refine stop_neq (t := 24) ?_) | (with_reducible refine stop_load (t := 36) ?_) | (with_reducible refine stop_look ?_) | (with_reducible refine stop_mput ?_) | (with_reducible refine stop_store (t := 3) ?_))
            (with_reducible refine ⟨?_⟩); (with_reducible refine at_any ?_ ?_); (focus go_simp); refine fun K0 hK => ld_vpin _ _ v rfl rfl V0.out (hK _ _ ?_)
            clear hK
            go_wp2_with (first | (with_reducible refine stop_load (t := 30) ?_) | (with_reducible refine stop_store (t := 30) ?_) | (with_reducible refine stop_load (t := 33) ?_) | (with_reducible refine stop_store (t := 33) ?_) | (with_reducible refine stop_load (t := 39) ?_) | (with_reducible refine stop_store (t := 39) ?_) | (with_reducible refine stop_load (t := 27) ?_) | (with_reducible refine stop_store (t := 27) ?_) | (with_reducible refine stop_load (t := 24) ?_) | (with_reducible refine stop_store (t := 24) ?_) | (with_reducible refine stop_build ?_) | (with_reducible refine stop_eql (t := 27) ?_) | (with_reducible refine stop_neq (t := 27) ?_) | (with_reducible refine stop_eql (t := 24) ?_) | (with_reducible refine stop_neq (t := 24) ?_) | (with_reducible refine stop_load (t := 36) ?_) | (with_reducible refine stop_look ?_) | (with_reducible refine stop_mput ?_) | (with_reducible refine stop_store (t := 3) ?_))
            (with_reducible refine ⟨?_⟩); (with_reducible refine at_any ?_ ?_); (focus go_simp); refine fun K0 hK => wp_neq_dig _ _ _ rfl q7.pin v.pin Q1.out.1.pinN V0.out.1.pinN rfl rfl (hK _ _ ?_)
            clear hK
            rw [decide_eq_true (show q7.pin = v.pin from HP.out)]
            simp only [Bool.not_true]
            go_wp2_with (first | (with_reducible refine stop_load (t := 30) ?_) | (with_reducible refine stop_store (t := 30) ?_) | (with_reducible refine stop_load (t := 33) ?_) | (with_reducible refine stop_store (t := 33) ?_) | (with_reducible refine stop_load (t := 39) ?_) | (with_reducible refine stop_store (t := 39) ?_) | (with_reducible refine stop_load (t := 27) ?_) | (with_reducible refine stop_store (t := 27) ?_) | (with_reducible refine stop_load (t := 24) ?_) | (with_reducible refine stop_store (t := 24) ?_) | (with_reducible refine stop_build ?_) | (with_reducible refine stop_eql (t := 27) ?_) | (with_reducible refine stop_neq (t := 27) ?_) | (with_reducible refine stop_eql (t := 24) ?_) | (with_reducible refine stop_neq (t := 24) ?_) | (with_reducible refine stop_load (t := 36) ?_) | (with_reducible refine stop_look ?_) | (with_reducible refine stop_mput ?_) | (with_reducible refine stop_store (t := 3) ?_))
            (with_reducible refine ⟨?_⟩); (with_reducible refine at_any ?_ ?_); (focus go_simp); refine fun K0 hK => ld_v _ _ v' rfl rfl g8V.out (hK _ _ ?_)
            clear hK
            go_wp2_with (first | (with_reducible refine stop_load (t := 30) ?_) | (with_reducible refine stop_store (t := 30) ?_) | (with_reducible refine stop_load (t := 33) ?_) | (with_reducible refine stop_store (t := 33) ?_) | (with_reducible refine stop_load (t := 39) ?_) | (with_reducible refine stop_store (t := 39) ?_) | (with_reducible refine stop_load (t := 27) ?_) | (with_reducible refine stop_store (t := 27) ?_) | (with_reducible refine stop_load (t := 24) ?_) | (with_reducible refine stop_store (t := 24) ?_) | (with_reducible refine stop_build ?_) | (with_reducible refine stop_eql (t := 27) ?_) | (with_reducible refine stop_neq (t := 27) ?_) | (with_reducible refine stop_eql (t := 24) ?_) | (with_reducible refine stop_neq (t := 24) ?_) | (with_reducible refine stop_load (t := 36) ?_) | (with_reducible refine stop_look ?_) | (with_reducible refine stop_mput ?_) | (with_reducible refine stop_store (t := 3) ?_))
            (with_reducible refine ⟨?_⟩); (with_reducible refine at_any ?_ ?_); (focus go_simp); refine fun K0 hK => st_v _ _ B v' rfl rfl rfl VI1.out.ok V0.out.2 (by rw [List.size_toArray, Vt.len V0.out.1]) (fun w20 hd ho => hK _ _ ?_)
            clear hK
            replace V0 := Lib.hid hd
            have VN2 := Lib.hid (show VN w20 (m + 2) v' from ⟨VI1.out.ok, VN1.out.only ho (by omega)⟩)
            replace M1 := Lib.hid (ho.mb M1.out (by omega))
            replace M2 := Lib.hid (ho.mb M2.out (by omega))
            replace BW := Lib.hid (ho.below w.heap.size (by rw [← HB.out]; exact Nat.le_refl _) w BW.out)
            have IV2 : Hid (Inv v'.ct fw fl ov) := Lib.hid (by rw [VC.out]; exact IV.out)
            clear hd ho q0c q22 r0 r5 r6 r7 hl hl2
            go_wp2_with (first | (with_reducible refine stop_load (t := 30) ?_) | (with_reducible refine stop_store (t := 30) ?_) | (with_reducible refine stop_load (t := 33) ?_) | (with_reducible refine stop_store (t := 33) ?_) | (with_reducible refine stop_load (t := 39) ?_) | (with_reducible refine stop_store (t := 39) ?_) | (with_reducible refine stop_load (t := 27) ?_) | (with_reducible refine stop_store (t := 27) ?_) | (with_reducible refine stop_load (t := 24) ?_) | (with_reducible refine stop_store (t := 24) ?_) | (with_reducible refine stop_build ?_) | (with_reducible refine stop_eql (t := 27) ?_) | (with_reducible refine stop_neq (t := 27) ?_) | (with_reducible refine stop_eql (t := 24) ?_) | (with_reducible refine stop_neq (t := 24) ?_) | (with_reducible refine stop_load (t := 36) ?_) | (with_reducible refine stop_look ?_) | (with_reducible refine stop_mput ?_) | (with_reducible refine stop_store (t := 3) ?_))
            go_roundw
            case rel => exact ⟨k + 1, v', _, _, _, n1, n2, by omega, by omega, rfl, by go_num, by omega, by omega, V0, VN2, IV2, M1, M2, BW⟩
            case measure => simp [intOf]; omega
          have hl3 : r.sec.l.length = 0 := by omega
          rw [hl3] at r7
          clear hl hl3 hove
          go_wp2_with (first | (with_reducible refine stop_load (t := 30) ?_) | (with_reducible refine stop_store (t := 30) ?_) | (with_reducible refine stop_load (t := 33) ?_) | (with_reducible refine stop_store (t := 33) ?_) | (with_reducible refine stop_load (t := 39) ?_) | (with_reducible refine stop_store (t := 39) ?_) | (with_reducible refine stop_load (t := 27) ?_) | (with_reducible refine stop_store (t := 27) ?_) | (with_reducible refine stop_load (t := 24) ?_) | (with_reducible refine stop_store (t := 24) ?_) | (with_reducible refine stop_build ?_) | (with_reducible refine stop_eql (t := 27) ?_) | (with_reducible refine stop_neq (t := 27) ?_) | (with_reducible refine stop_eql (t := 24) ?_) | (with_reducible refine stop_neq (t := 24) ?_) | (with_reducible refine stop_load (t := 36) ?_) | (with_reducible refine stop_look ?_) | (with_reducible refine stop_mput ?_) | (with_reducible refine stop_store (t := 3) ?_))
          (first | ((with_reducible refine ⟨?_⟩); (with_reducible refine at_not ?_ ?_); (focus (go_simp; done)); go_wp2_with (first | (with_reducible refine stop_load (t := 30) ?_) | (with_reducible refine stop_store (t := 30) ?_) | (with_reducible refine stop_load (t := 33) ?_) | (with_reducible refine stop_store (t := 33) ?_) | (with_reducible refine stop_load (t := 39) ?_) | (with_reducible refine stop_store (t := 39) ?_) | (with_reducible refine stop_load (t := 27) ?_) | (with_reducible refine stop_store (t := 27) ?_) | (with_reducible refine stop_load (t := 24) ?_) | (with_reducible refine stop_store (t := 24) ?_) | (with_reducible refine stop_build ?_) | (with_reducible refine stop_eql (t := 27) ?_) | (with_reducible refine stop_neq (t := 27) ?_) | (with_reducible refine stop_eql (t := 24) ?_) | (with_reducible refine stop_neq (t := 24) ?_) | (with_reducible refine stop_load (t := 36) ?_) | (with_reducible refine stop_look ?_) | (with_reducible refine stop_mput ?_) | (with_reducible refine stop_store (t := 3) ?_))) | skip)
          (first | ((with_reducible refine ⟨?_⟩); (with_reducible refine at_not ?_ ?_); (focus (go_simp; done)); go_wp2_with (first | (with_reducible refine stop_load (t := 30) ?_) | (with_reducible refine stop_store (t := 30) ?_) | (with_reducible refine stop_load (t := 33) ?_) | (with_reducible refine stop_store (t := 33) ?_) | (with_reducible refine stop_load (t := 39) ?_) | (with_reducible refine stop_store (t := 39) ?_) | (with_reducible refine stop_load (t := 27) ?_) | (with_reducible refine stop_store (t := 27) ?_) | (with_reducible refine stop_load (t := 24) ?_) | (with_reducible refine stop_store (t := 24) ?_) | (with_reducible refine stop_build ?_) | (with_reducible refine stop_eql (t := 27) ?_) | (with_reducible refine stop_neq (t := 27) ?_) | (with_reducible refine stop_eql (t := 24) ?_) | (with_reducible refine stop_neq (t := 24) ?_) | (with_reducible refine stop_load (t := 36) ?_) | (with_reducible refine stop_look ?_) | (with_reducible refine stop_mput ?_) | (with_reducible refine stop_store (t := 3) ?_))) | skip)
          (first | ((with_reducible refine ⟨?_⟩); (with_reducible refine at_not ?_ ?_); (focus (go_simp; done)); go_wp2_with (first | (with_reducible refine stop_load (t := 30) ?_) | (with_reducible refine stop_store (t := 30) ?_) | (with_reducible refine stop_load (t := 33) ?_) | (with_reducible refine stop_store (t := 33) ?_) | (with_reducible refine stop_load (t := 39) ?_) | (with_reducible refine stop_store (t := 39) ?_) | (with_reducible refine stop_load (t := 27) ?_) | (with_reducible refine stop_store (t := 27) ?_) | (with_reducible refine stop_load (t := 24) ?_) | (with_reducible refine stop_store (t := 24) ?_) | (with_reducible refine stop_build ?_) | (with_reducible refine stop_eql (t := 27) ?_) | (with_reducible refine stop_neq (t := 27) ?_) | (with_reducible refine stop_eql (t := 24) ?_) | (with_reducible refine stop_neq (t := 24) ?_) | (with_reducible refine stop_load (t := 36) ?_) | (with_reducible refine stop_look ?_) | (with_reducible refine stop_mput ?_) | (with_reducible refine stop_store (t := 3) ?_))) | skip)
          (with_reducible refine ⟨?_⟩); (with_reducible refine at_any ?_ ?_); (focus go_simp); refine fun K0 hK => ld_v _ _ v' rfl rfl g8V.out (hK _ _ ?_)
          clear hK
          go_wp2_with (first | (with_reducible refine stop_load (t := 30) ?_) | (with_reducible refine stop_store (t := 30) ?_) | (with_reducible refine stop_load (t := 33) ?_) | (with_reducible refine stop_store (t := 33) ?_) | (with_reducible refine stop_load (t := 39) ?_) | (with_reducible refine stop_store (t := 39) ?_) | (with_reducible refine stop_load (t := 27) ?_) | (with_reducible refine stop_store (t := 27) ?_) | (with_reducible refine stop_load (t := 24) ?_) | (with_reducible refine stop_store (t := 24) ?_) | (with_reducible refine stop_build ?_) | (with_reducible refine stop_eql (t := 27) ?_) | (with_reducible refine stop_neq (t := 27) ?_) | (with_reducible refine stop_eql (t := 24) ?_) | (with_reducible refine stop_neq (t := 24) ?_) | (with_reducible refine stop_load (t := 36) ?_) | (with_reducible refine stop_look ?_) | (with_reducible refine stop_mput ?_) | (with_reducible refine stop_store (t := 3) ?_))
          (with_reducible refine ⟨?_⟩); (with_reducible refine at_any ?_ ?_); (focus go_simp); refine fun K0 hK => st_v _ _ B v' rfl rfl rfl VI1.out.ok V0.out.2 (by rw [List.size_toArray, Vt.len V0.out.1]) (fun w20 hd ho => hK _ _ ?_)
          clear hK
          replace V0 := Lib.hid hd
          have VN2 := Lib.hid (show VN w20 (m + 2) v' from ⟨VI1.out.ok, VN1.out.only ho (by omega)⟩)
          replace M1 := Lib.hid (ho.mb M1.out (by omega))
          replace M2 := Lib.hid (ho.mb M2.out (by omega))
          replace BW := Lib.hid (ho.below w.heap.size (by rw [← HB.out]; exact Nat.le_refl _) w BW.out)
          have IV2 : Hid (Inv v'.ct fw fl ov) := Lib.hid (by rw [VC.out]; exact IV.out)
          clear hd ho q0c q22 r0 r5 r6 r7
          go_wp2_with (first | (with_reducible refine stop_load (t := 30) ?_) | (with_reducible refine stop_store (t := 30) ?_) | (with_reducible refine stop_load (t := 33) ?_) | (with_reducible refine stop_store (t := 33) ?_) | (with_reducible refine stop_load (t := 39) ?_) | (with_reducible refine stop_store (t := 39) ?_) | (with_reducible refine stop_load (t := 27) ?_) | (with_reducible refine stop_store (t := 27) ?_) | (with_reducible refine stop_load (t := 24) ?_) | (with_reducible refine stop_store (t := 24) ?_) | (with_reducible refine stop_build ?_) | (with_reducible refine stop_eql (t := 27) ?_) | (with_reducible refine stop_neq (t := 27) ?_) | (with_reducible refine stop_eql (t := 24) ?_) | (with_reducible refine stop_neq (t := 24) ?_) | (with_reducible refine stop_load (t := 36) ?_) | (with_reducible refine stop_look ?_) | (with_reducible refine stop_mput ?_) | (with_reducible refine stop_store (t := 3) ?_))
          go_roundw
          case rel => exact ⟨k + 1, v', _, _, _, n1, n2, by omega, by omega, rfl, by go_num, by omega, by omega, V0, VN2, IV2, M1, M2, BW⟩
          case measure => simp [intOf]; omega
        | wrong ho hv hg =>
          have HO : Hid (q7.op = 2) := Lib.hid ho
          have NW := IV.out.now hv hg
          have FL : Hid (fl v.gen = v.lim) := Lib.hid NW.2.1
          have FW : Hid (fw v.gen = v.used) := Lib.hid NW.2.2
          have SP := right_split hv hg
          have u0 : 0 ≤ v.used := SP.2.2.2.2.2.1
          have u1 : v.used < v.lim := SP.2.2.2.2.2.2.1
          have u2 : v.lim ≤ 32 := SP.2.2.2.2.1
          have LW : Hid (Vc.left (wrongC v.ct) = v.lim - (v.used + 1)) := Lib.hid (wrong_left hv hg)
          have HV := Lib.hid hv
          have HG := Lib.hid hg
          clear ho hv hg NW SP
          have VC := Lib.hid hvc
          have RW := Lib.hid (congrArg (·.why) hrc)
          have RG := Lib.hid (congrArg (·.gen) hrc)
          have RS := Lib.hid (congrArg (·.sec) hrc)
          have RL := Lib.hid (congrArg (·.left) hrc)
          clear hvc hrc
          go_wp2_with (first | (with_reducible refine stop_load (t := 30) ?_) | (with_reducible refine stop_store (t := 30) ?_) | (with_reducible refine stop_load (t := 33) ?_) | (with_reducible refine stop_store (t := 33) ?_) | (with_reducible refine stop_load (t := 39) ?_) | (with_reducible refine stop_store (t := 39) ?_) | (with_reducible refine stop_load (t := 27) ?_) | (with_reducible refine stop_store (t := 27) ?_) | (with_reducible refine stop_load (t := 24) ?_) | (with_reducible refine stop_store (t := 24) ?_) | (with_reducible refine stop_build ?_) | (with_reducible refine stop_eql (t := 27) ?_) | (with_reducible refine stop_neq (t := 27) ?_) | (with_reducible refine stop_eql (t := 24) ?_) | (with_reducible refine stop_neq (t := 24) ?_) | (with_reducible refine stop_load (t := 36) ?_) | (with_reducible refine stop_look ?_) | (with_reducible refine stop_mput ?_) | (with_reducible refine stop_store (t := 3) ?_))
          (with_reducible refine ⟨?_⟩); (with_reducible refine at_any ?_ ?_); (focus go_simp); refine fun K0 hK => st_v _ _ w8.heap.size v' rfl rfl rfl VI1.out.ok ((Bk.new rfl _ _).more _) (by rfl) (fun w9 d1 o1 => hK _ _ ?_)
          clear hK
          have Y1 : Hid (Bk w9 (w8.heap.size + 1) 39 zeroRt.C.toArray) := Lib.hid (o1.bk (Bk.new (by simp) _ _) (by omega))
          have D1 := Lib.hid d1
          have O1 := Lib.hid o1
          clear d1 o1
          go_wp2_with (first | (with_reducible refine stop_load (t := 30) ?_) | (with_reducible refine stop_store (t := 30) ?_) | (with_reducible refine stop_load (t := 33) ?_) | (with_reducible refine stop_store (t := 33) ?_) | (with_reducible refine stop_load (t := 39) ?_) | (with_reducible refine stop_store (t := 39) ?_) | (with_reducible refine stop_load (t := 27) ?_) | (with_reducible refine stop_store (t := 27) ?_) | (with_reducible refine stop_load (t := 24) ?_) | (with_reducible refine stop_store (t := 24) ?_) | (with_reducible refine stop_build ?_) | (with_reducible refine stop_eql (t := 27) ?_) | (with_reducible refine stop_neq (t := 27) ?_) | (with_reducible refine stop_eql (t := 24) ?_) | (with_reducible refine stop_neq (t := 24) ?_) | (with_reducible refine stop_load (t := 36) ?_) | (with_reducible refine stop_look ?_) | (with_reducible refine stop_mput ?_) | (with_reducible refine stop_store (t := 3) ?_))
          (with_reducible refine ⟨?_⟩); (with_reducible refine at_any ?_ ?_); (focus go_simp); refine fun K0 hK => st_r _ _ (w8.heap.size + 1) r rfl rfl rfl RO.out Y1.out (by rfl) (fun w10 d2 o2 => hK _ _ ?_)
          clear hK
          obtain ⟨gv, gr, xx⟩ := pair_facts O1.out D1.out o2 d2
          clear D1 O1 Y1 o2 d2
          replace V0 := Lib.hid (V0.out.ext xx)
          replace Q1 := Lib.hid (Q1.out.ext xx)
          replace VN1 := Lib.hid (VN1.out.ext xx)
          replace VI1 := Lib.hid (VI1.out.ext xx)
          replace M1 := Lib.hid (M1.out.ext xx)
          replace M2 := Lib.hid (M2.out.ext xx)
          replace VN9 := Lib.hid (VN9.out.ext xx)
          replace BW := Lib.hid (Ex.trans BW.out xx)
          obtain ⟨g8, hgn⟩ : ∃ g, g = w8.heap.size := ⟨_, rfl⟩
          rw [← hgn] at gv gr ⊢
          have g8S := Lib.hid hgn
          have g8V := Lib.hid gv
          have g8R := Lib.hid gr
          clear gv gr xx hgn
          replace SB := Lib.hid (show m + 2 ≤ g8 by rw [g8S.out]; exact SB.out)
          clear g8S
          obtain ⟨q0c, q21, q22, q55, q56⟩ := Q1.out.cells
          obtain ⟨r0, r5, r6, r7, r8, r9⟩ := g8R.out.cells
          obtain ⟨v4, v21, v22, v23, v40, v41⟩ := V0.out.cells
          obtain ⟨n4, n21, n22, n23, n40, n41⟩ := g8V.out.cells
          unfold Pt.V at r7
          rw [show r.why = 23 from RW.out] at r0
          clear q21 q55 q56 r8 r9 v21 v22 v23 v40 v41 n4 n21 n22 n23 n40 n41 v4
          rw [show q7.op = 2 from HO.out] at q0c
          have rl : r.sec.l.length = 0 := by rw [show r.sec.l = [] from RS.out]; rfl
          rw [rl] at r7
          clear rl
          rw [show r.gen = v.gen from RG.out] at r5
          go_wp2_with (first | (with_reducible refine stop_load (t := 30) ?_) | (with_reducible refine stop_store (t := 30) ?_) | (with_reducible refine stop_load (t := 33) ?_) | (with_reducible refine stop_store (t := 33) ?_) | (with_reducible refine stop_load (t := 39) ?_) | (with_reducible refine stop_store (t := 39) ?_) | (with_reducible refine stop_load (t := 27) ?_) | (with_reducible refine stop_store (t := 27) ?_) | (with_reducible refine stop_load (t := 24) ?_) | (with_reducible refine stop_store (t := 24) ?_) | (with_reducible refine stop_build ?_) | (with_reducible refine stop_eql (t := 27) ?_) | (with_reducible refine stop_neq (t := 27) ?_) | (with_reducible refine stop_eql (t := 24) ?_) | (with_reducible refine stop_neq (t := 24) ?_) | (with_reducible refine stop_load (t := 36) ?_) | (with_reducible refine stop_look ?_) | (with_reducible refine stop_mput ?_) | (with_reducible refine stop_store (t := 3) ?_))
          (first | ((with_reducible refine ⟨?_⟩); (with_reducible refine at_not ?_ ?_); (focus (go_simp; done)); go_wp2_with (first | (with_reducible refine stop_load (t := 30) ?_) | (with_reducible refine stop_store (t := 30) ?_) | (with_reducible refine stop_load (t := 33) ?_) | (with_reducible refine stop_store (t := 33) ?_) | (with_reducible refine stop_load (t := 39) ?_) | (with_reducible refine stop_store (t := 39) ?_) | (with_reducible refine stop_load (t := 27) ?_) | (with_reducible refine stop_store (t := 27) ?_) | (with_reducible refine stop_load (t := 24) ?_) | (with_reducible refine stop_store (t := 24) ?_) | (with_reducible refine stop_build ?_) | (with_reducible refine stop_eql (t := 27) ?_) | (with_reducible refine stop_neq (t := 27) ?_) | (with_reducible refine stop_eql (t := 24) ?_) | (with_reducible refine stop_neq (t := 24) ?_) | (with_reducible refine stop_load (t := 36) ?_) | (with_reducible refine stop_look ?_) | (with_reducible refine stop_mput ?_) | (with_reducible refine stop_store (t := 3) ?_))) | skip)
          (first | ((with_reducible refine ⟨?_⟩); (with_reducible refine at_not ?_ ?_); (focus (go_simp; done)); go_wp2_with (first | (with_reducible refine stop_load (t := 30) ?_) | (with_reducible refine stop_store (t := 30) ?_) | (with_reducible refine stop_load (t := 33) ?_) | (with_reducible refine stop_store (t := 33) ?_) | (with_reducible refine stop_load (t := 39) ?_) | (with_reducible refine stop_store (t := 39) ?_) | (with_reducible refine stop_load (t := 27) ?_) | (with_reducible refine stop_store (t := 27) ?_) | (with_reducible refine stop_load (t := 24) ?_) | (with_reducible refine stop_store (t := 24) ?_) | (with_reducible refine stop_build ?_) | (with_reducible refine stop_eql (t := 27) ?_) | (with_reducible refine stop_neq (t := 27) ?_) | (with_reducible refine stop_eql (t := 24) ?_) | (with_reducible refine stop_neq (t := 24) ?_) | (with_reducible refine stop_load (t := 36) ?_) | (with_reducible refine stop_look ?_) | (with_reducible refine stop_mput ?_) | (with_reducible refine stop_store (t := 3) ?_))) | skip)
          (with_reducible refine ⟨?_⟩); (with_reducible refine at_any ?_ ?_); (focus go_simp); refine fun K0 hK => wp_look _ _ rfl m n1 fw v.gen v.used rfl rfl M1.out (by omega) (by omega) FW.out (hK _ _ ?_)
          clear hK
          go_wp2_with (first | (with_reducible refine stop_load (t := 30) ?_) | (with_reducible refine stop_store (t := 30) ?_) | (with_reducible refine stop_load (t := 33) ?_) | (with_reducible refine stop_store (t := 33) ?_) | (with_reducible refine stop_load (t := 39) ?_) | (with_reducible refine stop_store (t := 39) ?_) | (with_reducible refine stop_load (t := 27) ?_) | (with_reducible refine stop_store (t := 27) ?_) | (with_reducible refine stop_load (t := 24) ?_) | (with_reducible refine stop_store (t := 24) ?_) | (with_reducible refine stop_build ?_) | (with_reducible refine stop_eql (t := 27) ?_) | (with_reducible refine stop_neq (t := 27) ?_) | (with_reducible refine stop_eql (t := 24) ?_) | (with_reducible refine stop_neq (t := 24) ?_) | (with_reducible refine stop_load (t := 36) ?_) | (with_reducible refine stop_look ?_) | (with_reducible refine stop_mput ?_) | (with_reducible refine stop_store (t := 3) ?_))
          (with_reducible refine ⟨?_⟩); (with_reducible refine at_any ?_ ?_); (focus go_simp); refine fun K0 hK => wp_mput _ _ _ rfl m n1 fw v.gen (v.used + 1) rfl rfl rfl M1.out (by omega) (by omega) (by omega) (by omega) (by omega) (fun w11 hm mk => hK _ _ ?_)
          clear hK
          have sb := SB.out
          have sz := SZ.out
          clear q0c q22 r0 r5 r6 r7
          replace V0 := Lib.hid (mk.vb V0.out (by omega))
          replace Q1 := Lib.hid (mk.qb Q1.out (by omega))
          replace g8V := Lib.hid (mk.vb g8V.out (by omega))
          replace g8R := Lib.hid (mk.rb g8R.out (by omega))
          replace M2 := Lib.hid (mk.mb M2.out (by omega))
          replace M1 := Lib.hid hm
          have VN1' := Lib.hid (VN1.out.md mk (by omega))
          replace VI1 : Hid (VI w11 v') := Lib.hid ⟨VI1.out.ok, VN1'.out.1⟩
          replace VN1 := VN1'
          replace BW := Lib.hid (mk.below w.heap.size (by rw [← HB.out]; omega) w BW.out)
          clear hm mk sb sz VN1'
          obtain ⟨q0c, q21, q22, q55, q56⟩ := Q1.out.cells
          obtain ⟨r0, r5, r6, r7, r8, r9⟩ := g8R.out.cells
          obtain ⟨v4, v21, v22, v23, v40, v41⟩ := V0.out.cells
          obtain ⟨n4, n21, n22, n23, n40, n41⟩ := g8V.out.cells
          unfold Pt.V at r7
          rw [show r.why = 23 from RW.out] at r0
          clear q21 q55 q56 r8 r9 v21 v22 v23 v40 v41 n4 n21 n22 n23 n40 n41 v4
          rw [show q7.op = 2 from HO.out] at q0c
          have rl : r.sec.l.length = 0 := by rw [show r.sec.l = [] from RS.out]; rfl
          rw [rl] at r7
          clear rl
          rw [show r.gen = v.gen from RG.out] at r5
          rw [show r.left = v.lim - (v.used + 1) from RL.out.trans LW.out] at r6
          obtain ⟨fw2, hfw2⟩ : ∃ f : Int → Int, f = (fun i => if i = v.gen then v.used + 1 else fw i) := ⟨_, rfl⟩
          rw [← hfw2] at M1
          have FW2 : Hid (fw2 v.gen = v.used + 1) := Lib.hid (by rw [hfw2]; exact if_pos rfl)
          have HF2 := Lib.hid hfw2
          clear hfw2
          go_wp2_with (first | (with_reducible refine stop_load (t := 30) ?_) | (with_reducible refine stop_store (t := 30) ?_) | (with_reducible refine stop_load (t := 33) ?_) | (with_reducible refine stop_store (t := 33) ?_) | (with_reducible refine stop_load (t := 39) ?_) | (with_reducible refine stop_store (t := 39) ?_) | (with_reducible refine stop_load (t := 27) ?_) | (with_reducible refine stop_store (t := 27) ?_) | (with_reducible refine stop_load (t := 24) ?_) | (with_reducible refine stop_store (t := 24) ?_) | (with_reducible refine stop_build ?_) | (with_reducible refine stop_eql (t := 27) ?_) | (with_reducible refine stop_neq (t := 27) ?_) | (with_reducible refine stop_eql (t := 24) ?_) | (with_reducible refine stop_neq (t := 24) ?_) | (with_reducible refine stop_load (t := 36) ?_) | (with_reducible refine stop_look ?_) | (with_reducible refine stop_mput ?_) | (with_reducible refine stop_store (t := 3) ?_))
          (with_reducible refine ⟨?_⟩); (with_reducible refine at_any ?_ ?_); (focus go_simp); refine fun K0 hK => wp_look _ _ rfl m (n1 + 1) fw2 v.gen (v.used + 1) rfl rfl M1.out (by omega) (by omega) FW2.out (hK _ _ ?_)
          clear hK
          go_wp2_with (first | (with_reducible refine stop_load (t := 30) ?_) | (with_reducible refine stop_store (t := 30) ?_) | (with_reducible refine stop_load (t := 33) ?_) | (with_reducible refine stop_store (t := 33) ?_) | (with_reducible refine stop_load (t := 39) ?_) | (with_reducible refine stop_store (t := 39) ?_) | (with_reducible refine stop_load (t := 27) ?_) | (with_reducible refine stop_store (t := 27) ?_) | (with_reducible refine stop_load (t := 24) ?_) | (with_reducible refine stop_store (t := 24) ?_) | (with_reducible refine stop_build ?_) | (with_reducible refine stop_eql (t := 27) ?_) | (with_reducible refine stop_neq (t := 27) ?_) | (with_reducible refine stop_eql (t := 24) ?_) | (with_reducible refine stop_neq (t := 24) ?_) | (with_reducible refine stop_load (t := 36) ?_) | (with_reducible refine stop_look ?_) | (with_reducible refine stop_mput ?_) | (with_reducible refine stop_store (t := 3) ?_))
          (with_reducible refine ⟨?_⟩); (with_reducible refine at_any ?_ ?_); (focus go_simp); refine fun K0 hK => wp_look _ _ rfl (m + 1) n2 fl v.gen v.lim rfl rfl M2.out (by omega) (by omega) FL.out (hK _ _ ?_)
          clear hK
          go_wp2_with (first | (with_reducible refine stop_load (t := 30) ?_) | (with_reducible refine stop_store (t := 30) ?_) | (with_reducible refine stop_load (t := 33) ?_) | (with_reducible refine stop_store (t := 33) ?_) | (with_reducible refine stop_load (t := 39) ?_) | (with_reducible refine stop_store (t := 39) ?_) | (with_reducible refine stop_load (t := 27) ?_) | (with_reducible refine stop_store (t := 27) ?_) | (with_reducible refine stop_load (t := 24) ?_) | (with_reducible refine stop_store (t := 24) ?_) | (with_reducible refine stop_build ?_) | (with_reducible refine stop_eql (t := 27) ?_) | (with_reducible refine stop_neq (t := 27) ?_) | (with_reducible refine stop_eql (t := 24) ?_) | (with_reducible refine stop_neq (t := 24) ?_) | (with_reducible refine stop_load (t := 36) ?_) | (with_reducible refine stop_look ?_) | (with_reducible refine stop_mput ?_) | (with_reducible refine stop_store (t := 3) ?_))
          (with_reducible refine ⟨?_⟩); (with_reducible refine at_any ?_ ?_); (focus go_simp); refine fun K0 hK => wp_look _ _ rfl (m + 1) n2 fl v.gen v.lim rfl rfl M2.out (by omega) (by omega) FL.out (hK _ _ ?_)
          clear hK
          go_wp2_with (first | (with_reducible refine stop_load (t := 30) ?_) | (with_reducible refine stop_store (t := 30) ?_) | (with_reducible refine stop_load (t := 33) ?_) | (with_reducible refine stop_store (t := 33) ?_) | (with_reducible refine stop_load (t := 39) ?_) | (with_reducible refine stop_store (t := 39) ?_) | (with_reducible refine stop_load (t := 27) ?_) | (with_reducible refine stop_store (t := 27) ?_) | (with_reducible refine stop_load (t := 24) ?_) | (with_reducible refine stop_store (t := 24) ?_) | (with_reducible refine stop_build ?_) | (with_reducible refine stop_eql (t := 27) ?_) | (with_reducible refine stop_neq (t := 27) ?_) | (with_reducible refine stop_eql (t := 24) ?_) | (with_reducible refine stop_neq (t := 24) ?_) | (with_reducible refine stop_load (t := 36) ?_) | (with_reducible refine stop_look ?_) | (with_reducible refine stop_mput ?_) | (with_reducible refine stop_store (t := 3) ?_))
          (with_reducible refine ⟨?_⟩); (with_reducible refine at_any ?_ ?_); (focus go_simp); refine fun K0 hK => wp_look _ _ rfl m (n1 + 1) fw2 v.gen (v.used + 1) rfl rfl M1.out (by omega) (by omega) FW2.out (hK _ _ ?_)
          clear hK
          go_wp2_with (first | (with_reducible refine stop_load (t := 30) ?_) | (with_reducible refine stop_store (t := 30) ?_) | (with_reducible refine stop_load (t := 33) ?_) | (with_reducible refine stop_store (t := 33) ?_) | (with_reducible refine stop_load (t := 39) ?_) | (with_reducible refine stop_store (t := 39) ?_) | (with_reducible refine stop_load (t := 27) ?_) | (with_reducible refine stop_store (t := 27) ?_) | (with_reducible refine stop_load (t := 24) ?_) | (with_reducible refine stop_store (t := 24) ?_) | (with_reducible refine stop_build ?_) | (with_reducible refine stop_eql (t := 27) ?_) | (with_reducible refine stop_neq (t := 27) ?_) | (with_reducible refine stop_eql (t := 24) ?_) | (with_reducible refine stop_neq (t := 24) ?_) | (with_reducible refine stop_load (t := 36) ?_) | (with_reducible refine stop_look ?_) | (with_reducible refine stop_mput ?_) | (with_reducible refine stop_store (t := 3) ?_))
          (with_reducible refine ⟨?_⟩); (with_reducible refine at_any ?_ ?_); (focus go_simp); refine fun K0 hK => wp_look _ _ rfl m (n1 + 1) fw2 v.gen (v.used + 1) rfl rfl M1.out (by omega) (by omega) FW2.out (hK _ _ ?_)
          clear hK
          go_wp2_with (first | (with_reducible refine stop_load (t := 30) ?_) | (with_reducible refine stop_store (t := 30) ?_) | (with_reducible refine stop_load (t := 33) ?_) | (with_reducible refine stop_store (t := 33) ?_) | (with_reducible refine stop_load (t := 39) ?_) | (with_reducible refine stop_store (t := 39) ?_) | (with_reducible refine stop_load (t := 27) ?_) | (with_reducible refine stop_store (t := 27) ?_) | (with_reducible refine stop_load (t := 24) ?_) | (with_reducible refine stop_store (t := 24) ?_) | (with_reducible refine stop_build ?_) | (with_reducible refine stop_eql (t := 27) ?_) | (with_reducible refine stop_neq (t := 27) ?_) | (with_reducible refine stop_eql (t := 24) ?_) | (with_reducible refine stop_neq (t := 24) ?_) | (with_reducible refine stop_load (t := 36) ?_) | (with_reducible refine stop_look ?_) | (with_reducible refine stop_mput ?_) | (with_reducible refine stop_store (t := 3) ?_))
          (with_reducible refine ⟨?_⟩); (with_reducible refine at_any ?_ ?_); (focus go_simp); refine fun K0 hK => wp_look _ _ rfl (m + 1) n2 fl v.gen v.lim rfl rfl M2.out (by omega) (by omega) FL.out (hK _ _ ?_)
          clear hK
          go_wp2_with (first | (with_reducible refine stop_load (t := 30) ?_) | (with_reducible refine stop_store (t := 30) ?_) | (with_reducible refine stop_load (t := 33) ?_) | (with_reducible refine stop_store (t := 33) ?_) | (with_reducible refine stop_load (t := 39) ?_) | (with_reducible refine stop_store (t := 39) ?_) | (with_reducible refine stop_load (t := 27) ?_) | (with_reducible refine stop_store (t := 27) ?_) | (with_reducible refine stop_load (t := 24) ?_) | (with_reducible refine stop_store (t := 24) ?_) | (with_reducible refine stop_build ?_) | (with_reducible refine stop_eql (t := 27) ?_) | (with_reducible refine stop_neq (t := 27) ?_) | (with_reducible refine stop_eql (t := 24) ?_) | (with_reducible refine stop_neq (t := 24) ?_) | (with_reducible refine stop_load (t := 36) ?_) | (with_reducible refine stop_look ?_) | (with_reducible refine stop_mput ?_) | (with_reducible refine stop_store (t := 3) ?_) | (with_reducible refine stop_eql (t := 3) ?_))
          (with_reducible refine ⟨?_⟩); (with_reducible refine at_any ?_ ?_); (focus go_simp); refine fun K0 hK => wp_eql_i64 _ _ _ rfl (v.used + 1) v.lim rfl rfl (hK _ _ ?_)
          clear hK
          by_cases hul : v.used + 1 = v.lim
          case pos =>
            rw [decide_eq_true hul]
            have HUL := Lib.hid hul
            clear hul
            go_wp2_with (first | (with_reducible refine stop_load (t := 30) ?_) | (with_reducible refine stop_store (t := 30) ?_) | (with_reducible refine stop_load (t := 33) ?_) | (with_reducible refine stop_store (t := 33) ?_) | (with_reducible refine stop_load (t := 39) ?_) | (with_reducible refine stop_store (t := 39) ?_) | (with_reducible refine stop_load (t := 27) ?_) | (with_reducible refine stop_store (t := 27) ?_) | (with_reducible refine stop_load (t := 24) ?_) | (with_reducible refine stop_store (t := 24) ?_) | (with_reducible refine stop_build ?_) | (with_reducible refine stop_eql (t := 27) ?_) | (with_reducible refine stop_neq (t := 27) ?_) | (with_reducible refine stop_eql (t := 24) ?_) | (with_reducible refine stop_neq (t := 24) ?_) | (with_reducible refine stop_load (t := 36) ?_) | (with_reducible refine stop_look ?_) | (with_reducible refine stop_mput ?_) | (with_reducible refine stop_store (t := 3) ?_))
            (first | ((with_reducible refine ⟨?_⟩); (with_reducible refine at_not ?_ ?_); (focus (go_simp; done)); go_wp2_with (first | (with_reducible refine stop_load (t := 30) ?_) | (with_reducible refine stop_store (t := 30) ?_) | (with_reducible refine stop_load (t := 33) ?_) | (with_reducible refine stop_store (t := 33) ?_) | (with_reducible refine stop_load (t := 39) ?_) | (with_reducible refine stop_store (t := 39) ?_) | (with_reducible refine stop_load (t := 27) ?_) | (with_reducible refine stop_store (t := 27) ?_) | (with_reducible refine stop_load (t := 24) ?_) | (with_reducible refine stop_store (t := 24) ?_) | (with_reducible refine stop_build ?_) | (with_reducible refine stop_eql (t := 27) ?_) | (with_reducible refine stop_neq (t := 27) ?_) | (with_reducible refine stop_eql (t := 24) ?_) | (with_reducible refine stop_neq (t := 24) ?_) | (with_reducible refine stop_load (t := 36) ?_) | (with_reducible refine stop_look ?_) | (with_reducible refine stop_mput ?_) | (with_reducible refine stop_store (t := 3) ?_))) | skip)
            (first | ((with_reducible refine ⟨?_⟩); (with_reducible refine at_not ?_ ?_); (focus (go_simp; done)); go_wp2_with (first | (with_reducible refine stop_load (t := 30) ?_) | (with_reducible refine stop_store (t := 30) ?_) | (with_reducible refine stop_load (t := 33) ?_) | (with_reducible refine stop_store (t := 33) ?_) | (with_reducible refine stop_load (t := 39) ?_) | (with_reducible refine stop_store (t := 39) ?_) | (with_reducible refine stop_load (t := 27) ?_) | (with_reducible refine stop_store (t := 27) ?_) | (with_reducible refine stop_load (t := 24) ?_) | (with_reducible refine stop_store (t := 24) ?_) | (with_reducible refine stop_build ?_) | (with_reducible refine stop_eql (t := 27) ?_) | (with_reducible refine stop_neq (t := 27) ?_) | (with_reducible refine stop_eql (t := 24) ?_) | (with_reducible refine stop_neq (t := 24) ?_) | (with_reducible refine stop_load (t := 36) ?_) | (with_reducible refine stop_look ?_) | (with_reducible refine stop_mput ?_) | (with_reducible refine stop_store (t := 3) ?_))) | skip)
            (first | ((with_reducible refine ⟨?_⟩); (with_reducible refine at_not ?_ ?_); (focus (go_simp; done)); go_wp2_with (first | (with_reducible refine stop_load (t := 30) ?_) | (with_reducible refine stop_store (t := 30) ?_) | (with_reducible refine stop_load (t := 33) ?_) | (with_reducible refine stop_store (t := 33) ?_) | (with_reducible refine stop_load (t := 39) ?_) | (with_reducible refine stop_store (t := 39) ?_) | (with_reducible refine stop_load (t := 27) ?_) | (with_reducible refine stop_store (t := 27) ?_) | (with_reducible refine stop_load (t := 24) ?_) | (with_reducible refine stop_store (t := 24) ?_) | (with_reducible refine stop_build ?_) | (with_reducible refine stop_eql (t := 27) ?_) | (with_reducible refine stop_neq (t := 27) ?_) | (with_reducible refine stop_eql (t := 24) ?_) | (with_reducible refine stop_neq (t := 24) ?_) | (with_reducible refine stop_load (t := 36) ?_) | (with_reducible refine stop_look ?_) | (with_reducible refine stop_mput ?_) | (with_reducible refine stop_store (t := 3) ?_))) | skip)
            (with_reducible refine ⟨?_⟩); (with_reducible refine at_any ?_ ?_); (focus go_simp); refine fun K0 hK => ld_v _ _ v' rfl rfl g8V.out (hK _ _ ?_)
            clear hK
            go_wp2_with (first | (with_reducible refine stop_load (t := 30) ?_) | (with_reducible refine stop_store (t := 30) ?_) | (with_reducible refine stop_load (t := 33) ?_) | (with_reducible refine stop_store (t := 33) ?_) | (with_reducible refine stop_load (t := 39) ?_) | (with_reducible refine stop_store (t := 39) ?_) | (with_reducible refine stop_load (t := 27) ?_) | (with_reducible refine stop_store (t := 27) ?_) | (with_reducible refine stop_load (t := 24) ?_) | (with_reducible refine stop_store (t := 24) ?_) | (with_reducible refine stop_build ?_) | (with_reducible refine stop_eql (t := 27) ?_) | (with_reducible refine stop_neq (t := 27) ?_) | (with_reducible refine stop_eql (t := 24) ?_) | (with_reducible refine stop_neq (t := 24) ?_) | (with_reducible refine stop_load (t := 36) ?_) | (with_reducible refine stop_look ?_) | (with_reducible refine stop_mput ?_) | (with_reducible refine stop_store (t := 3) ?_))
            (with_reducible refine ⟨?_⟩); (with_reducible refine at_any ?_ ?_); (focus go_simp); refine fun K0 hK => st_v _ _ B v' rfl rfl rfl VI1.out.ok V0.out.2 (by rw [List.size_toArray, Vt.len V0.out.1]) (fun w20 hd ho => hK _ _ ?_)
            clear hK
            replace V0 := Lib.hid hd
            have VN2 := Lib.hid (show VN w20 (m + 2) v' from ⟨VI1.out.ok, VN1.out.only ho (by omega)⟩)
            replace M1 := Lib.hid (ho.mb M1.out (by omega))
            replace M2 := Lib.hid (ho.mb M2.out (by omega))
            replace BW := Lib.hid (ho.below w.heap.size (by rw [← HB.out]; exact Nat.le_refl _) w BW.out)
            have IV2 : Hid (Inv v'.ct fw2 fl v.gen) := Lib.hid (by rw [VC.out]; have h := IV.out.wrong HV.out HG.out (by rw [← VC.out]; exact KP1.out); rw [if_pos (show v.ct.used + 1 = v.ct.lim from HUL.out)] at h; rw [HF2.out]; exact h)
            clear hd ho q0c q22 r0 r5 r6 r7
            go_wp2_with (first | (with_reducible refine stop_load (t := 30) ?_) | (with_reducible refine stop_store (t := 30) ?_) | (with_reducible refine stop_load (t := 33) ?_) | (with_reducible refine stop_store (t := 33) ?_) | (with_reducible refine stop_load (t := 39) ?_) | (with_reducible refine stop_store (t := 39) ?_) | (with_reducible refine stop_load (t := 27) ?_) | (with_reducible refine stop_store (t := 27) ?_) | (with_reducible refine stop_load (t := 24) ?_) | (with_reducible refine stop_store (t := 24) ?_) | (with_reducible refine stop_build ?_) | (with_reducible refine stop_eql (t := 27) ?_) | (with_reducible refine stop_neq (t := 27) ?_) | (with_reducible refine stop_eql (t := 24) ?_) | (with_reducible refine stop_neq (t := 24) ?_) | (with_reducible refine stop_load (t := 36) ?_) | (with_reducible refine stop_look ?_) | (with_reducible refine stop_mput ?_) | (with_reducible refine stop_store (t := 3) ?_))
            go_roundw
            case rel => exact ⟨k + 1, v', _, _, _, (n1 + 1), n2, by omega, by omega, rfl, by go_num, by omega, by omega, V0, VN2, IV2, M1, M2, BW⟩
            case measure => simp [intOf]; omega
          case neg =>
            rw [decide_eq_false hul]
            have HUL := Lib.hid hul
            clear hul
            go_wp2_with (first | (with_reducible refine stop_load (t := 30) ?_) | (with_reducible refine stop_store (t := 30) ?_) | (with_reducible refine stop_load (t := 33) ?_) | (with_reducible refine stop_store (t := 33) ?_) | (with_reducible refine stop_load (t := 39) ?_) | (with_reducible refine stop_store (t := 39) ?_) | (with_reducible refine stop_load (t := 27) ?_) | (with_reducible refine stop_store (t := 27) ?_) | (with_reducible refine stop_load (t := 24) ?_) | (with_reducible refine stop_store (t := 24) ?_) | (with_reducible refine stop_build ?_) | (with_reducible refine stop_eql (t := 27) ?_) | (with_reducible refine stop_neq (t := 27) ?_) | (with_reducible refine stop_eql (t := 24) ?_) | (with_reducible refine stop_neq (t := 24) ?_) | (with_reducible refine stop_load (t := 36) ?_) | (with_reducible refine stop_look ?_) | (with_reducible refine stop_mput ?_) | (with_reducible refine stop_store (t := 3) ?_))
            (first | ((with_reducible refine ⟨?_⟩); (with_reducible refine at_not ?_ ?_); (focus (go_simp; done)); go_wp2_with (first | (with_reducible refine stop_load (t := 30) ?_) | (with_reducible refine stop_store (t := 30) ?_) | (with_reducible refine stop_load (t := 33) ?_) | (with_reducible refine stop_store (t := 33) ?_) | (with_reducible refine stop_load (t := 39) ?_) | (with_reducible refine stop_store (t := 39) ?_) | (with_reducible refine stop_load (t := 27) ?_) | (with_reducible refine stop_store (t := 27) ?_) | (with_reducible refine stop_load (t := 24) ?_) | (with_reducible refine stop_store (t := 24) ?_) | (with_reducible refine stop_build ?_) | (with_reducible refine stop_eql (t := 27) ?_) | (with_reducible refine stop_neq (t := 27) ?_) | (with_reducible refine stop_eql (t := 24) ?_) | (with_reducible refine stop_neq (t := 24) ?_) | (with_reducible refine stop_load (t := 36) ?_) | (with_reducible refine stop_look ?_) | (with_reducible refine stop_mput ?_) | (with_reducible refine stop_store (t := 3) ?_))) | skip)
            (first | ((with_reducible refine ⟨?_⟩); (with_reducible refine at_not ?_ ?_); (focus (go_simp; done)); go_wp2_with (first | (with_reducible refine stop_load (t := 30) ?_) | (with_reducible refine stop_store (t := 30) ?_) | (with_reducible refine stop_load (t := 33) ?_) | (with_reducible refine stop_store (t := 33) ?_) | (with_reducible refine stop_load (t := 39) ?_) | (with_reducible refine stop_store (t := 39) ?_) | (with_reducible refine stop_load (t := 27) ?_) | (with_reducible refine stop_store (t := 27) ?_) | (with_reducible refine stop_load (t := 24) ?_) | (with_reducible refine stop_store (t := 24) ?_) | (with_reducible refine stop_build ?_) | (with_reducible refine stop_eql (t := 27) ?_) | (with_reducible refine stop_neq (t := 27) ?_) | (with_reducible refine stop_eql (t := 24) ?_) | (with_reducible refine stop_neq (t := 24) ?_) | (with_reducible refine stop_load (t := 36) ?_) | (with_reducible refine stop_look ?_) | (with_reducible refine stop_mput ?_) | (with_reducible refine stop_store (t := 3) ?_))) | skip)
            (first | ((with_reducible refine ⟨?_⟩); (with_reducible refine at_not ?_ ?_); (focus (go_simp; done)); go_wp2_with (first | (with_reducible refine stop_load (t := 30) ?_) | (with_reducible refine stop_store (t := 30) ?_) | (with_reducible refine stop_load (t := 33) ?_) | (with_reducible refine stop_store (t := 33) ?_) | (with_reducible refine stop_load (t := 39) ?_) | (with_reducible refine stop_store (t := 39) ?_) | (with_reducible refine stop_load (t := 27) ?_) | (with_reducible refine stop_store (t := 27) ?_) | (with_reducible refine stop_load (t := 24) ?_) | (with_reducible refine stop_store (t := 24) ?_) | (with_reducible refine stop_build ?_) | (with_reducible refine stop_eql (t := 27) ?_) | (with_reducible refine stop_neq (t := 27) ?_) | (with_reducible refine stop_eql (t := 24) ?_) | (with_reducible refine stop_neq (t := 24) ?_) | (with_reducible refine stop_load (t := 36) ?_) | (with_reducible refine stop_look ?_) | (with_reducible refine stop_mput ?_) | (with_reducible refine stop_store (t := 3) ?_))) | skip)
            (with_reducible refine ⟨?_⟩); (with_reducible refine at_any ?_ ?_); (focus go_simp); refine fun K0 hK => ld_v _ _ v' rfl rfl g8V.out (hK _ _ ?_)
            clear hK
            go_wp2_with (first | (with_reducible refine stop_load (t := 30) ?_) | (with_reducible refine stop_store (t := 30) ?_) | (with_reducible refine stop_load (t := 33) ?_) | (with_reducible refine stop_store (t := 33) ?_) | (with_reducible refine stop_load (t := 39) ?_) | (with_reducible refine stop_store (t := 39) ?_) | (with_reducible refine stop_load (t := 27) ?_) | (with_reducible refine stop_store (t := 27) ?_) | (with_reducible refine stop_load (t := 24) ?_) | (with_reducible refine stop_store (t := 24) ?_) | (with_reducible refine stop_build ?_) | (with_reducible refine stop_eql (t := 27) ?_) | (with_reducible refine stop_neq (t := 27) ?_) | (with_reducible refine stop_eql (t := 24) ?_) | (with_reducible refine stop_neq (t := 24) ?_) | (with_reducible refine stop_load (t := 36) ?_) | (with_reducible refine stop_look ?_) | (with_reducible refine stop_mput ?_) | (with_reducible refine stop_store (t := 3) ?_))
            (with_reducible refine ⟨?_⟩); (with_reducible refine at_any ?_ ?_); (focus go_simp); refine fun K0 hK => st_v _ _ B v' rfl rfl rfl VI1.out.ok V0.out.2 (by rw [List.size_toArray, Vt.len V0.out.1]) (fun w20 hd ho => hK _ _ ?_)
            clear hK
            replace V0 := Lib.hid hd
            have VN2 := Lib.hid (show VN w20 (m + 2) v' from ⟨VI1.out.ok, VN1.out.only ho (by omega)⟩)
            replace M1 := Lib.hid (ho.mb M1.out (by omega))
            replace M2 := Lib.hid (ho.mb M2.out (by omega))
            replace BW := Lib.hid (ho.below w.heap.size (by rw [← HB.out]; exact Nat.le_refl _) w BW.out)
            have IV2 : Hid (Inv v'.ct fw2 fl ov) := Lib.hid (by rw [VC.out]; have h := IV.out.wrong HV.out HG.out (by rw [← VC.out]; exact KP1.out); rw [if_neg (show ¬ v.ct.used + 1 = v.ct.lim from HUL.out)] at h; rw [HF2.out]; exact h)
            clear hd ho q0c q22 r0 r5 r6 r7
            go_wp2_with (first | (with_reducible refine stop_load (t := 30) ?_) | (with_reducible refine stop_store (t := 30) ?_) | (with_reducible refine stop_load (t := 33) ?_) | (with_reducible refine stop_store (t := 33) ?_) | (with_reducible refine stop_load (t := 39) ?_) | (with_reducible refine stop_store (t := 39) ?_) | (with_reducible refine stop_load (t := 27) ?_) | (with_reducible refine stop_store (t := 27) ?_) | (with_reducible refine stop_load (t := 24) ?_) | (with_reducible refine stop_store (t := 24) ?_) | (with_reducible refine stop_build ?_) | (with_reducible refine stop_eql (t := 27) ?_) | (with_reducible refine stop_neq (t := 27) ?_) | (with_reducible refine stop_eql (t := 24) ?_) | (with_reducible refine stop_neq (t := 24) ?_) | (with_reducible refine stop_load (t := 36) ?_) | (with_reducible refine stop_look ?_) | (with_reducible refine stop_mput ?_) | (with_reducible refine stop_store (t := 3) ?_))
            go_roundw
            case rel => exact ⟨k + 1, v', _, _, _, (n1 + 1), n2, by omega, by omega, rfl, by go_num, by omega, by omega, V0, VN2, IV2, M1, M2, BW⟩
            case measure => simp [intOf]; omega
        | removed ho hv hg =>
          have HO : Hid (q7.op = 4) := Lib.hid ho
          clear ho hv hg
          have VC := Lib.hid hvc
          have RW := Lib.hid (congrArg (·.why) hrc)
          have RG := Lib.hid (congrArg (·.gen) hrc)
          have RS := Lib.hid (congrArg (·.sec) hrc)
          have RL := Lib.hid (congrArg (·.left) hrc)
          clear hvc hrc
          go_wp2_with (first | (with_reducible refine stop_load (t := 30) ?_) | (with_reducible refine stop_store (t := 30) ?_) | (with_reducible refine stop_load (t := 33) ?_) | (with_reducible refine stop_store (t := 33) ?_) | (with_reducible refine stop_load (t := 39) ?_) | (with_reducible refine stop_store (t := 39) ?_) | (with_reducible refine stop_load (t := 27) ?_) | (with_reducible refine stop_store (t := 27) ?_) | (with_reducible refine stop_load (t := 24) ?_) | (with_reducible refine stop_store (t := 24) ?_) | (with_reducible refine stop_build ?_) | (with_reducible refine stop_eql (t := 27) ?_) | (with_reducible refine stop_neq (t := 27) ?_) | (with_reducible refine stop_eql (t := 24) ?_) | (with_reducible refine stop_neq (t := 24) ?_) | (with_reducible refine stop_load (t := 36) ?_) | (with_reducible refine stop_look ?_) | (with_reducible refine stop_mput ?_) | (with_reducible refine stop_store (t := 3) ?_))
          (with_reducible refine ⟨?_⟩); (with_reducible refine at_any ?_ ?_); (focus go_simp); refine fun K0 hK => st_v _ _ w8.heap.size v' rfl rfl rfl VI1.out.ok ((Bk.new rfl _ _).more _) (by rfl) (fun w9 d1 o1 => hK _ _ ?_)
          clear hK
          have Y1 : Hid (Bk w9 (w8.heap.size + 1) 39 zeroRt.C.toArray) := Lib.hid (o1.bk (Bk.new (by simp) _ _) (by omega))
          have D1 := Lib.hid d1
          have O1 := Lib.hid o1
          clear d1 o1
          go_wp2_with (first | (with_reducible refine stop_load (t := 30) ?_) | (with_reducible refine stop_store (t := 30) ?_) | (with_reducible refine stop_load (t := 33) ?_) | (with_reducible refine stop_store (t := 33) ?_) | (with_reducible refine stop_load (t := 39) ?_) | (with_reducible refine stop_store (t := 39) ?_) | (with_reducible refine stop_load (t := 27) ?_) | (with_reducible refine stop_store (t := 27) ?_) | (with_reducible refine stop_load (t := 24) ?_) | (with_reducible refine stop_store (t := 24) ?_) | (with_reducible refine stop_build ?_) | (with_reducible refine stop_eql (t := 27) ?_) | (with_reducible refine stop_neq (t := 27) ?_) | (with_reducible refine stop_eql (t := 24) ?_) | (with_reducible refine stop_neq (t := 24) ?_) | (with_reducible refine stop_load (t := 36) ?_) | (with_reducible refine stop_look ?_) | (with_reducible refine stop_mput ?_) | (with_reducible refine stop_store (t := 3) ?_))
          (with_reducible refine ⟨?_⟩); (with_reducible refine at_any ?_ ?_); (focus go_simp); refine fun K0 hK => st_r _ _ (w8.heap.size + 1) r rfl rfl rfl RO.out Y1.out (by rfl) (fun w10 d2 o2 => hK _ _ ?_)
          clear hK
          obtain ⟨gv, gr, xx⟩ := pair_facts O1.out D1.out o2 d2
          clear D1 O1 Y1 o2 d2
          replace V0 := Lib.hid (V0.out.ext xx)
          replace Q1 := Lib.hid (Q1.out.ext xx)
          replace VN1 := Lib.hid (VN1.out.ext xx)
          replace VI1 := Lib.hid (VI1.out.ext xx)
          replace M1 := Lib.hid (M1.out.ext xx)
          replace M2 := Lib.hid (M2.out.ext xx)
          replace VN9 := Lib.hid (VN9.out.ext xx)
          replace BW := Lib.hid (Ex.trans BW.out xx)
          obtain ⟨g8, hgn⟩ : ∃ g, g = w8.heap.size := ⟨_, rfl⟩
          rw [← hgn] at gv gr ⊢
          have g8S := Lib.hid hgn
          have g8V := Lib.hid gv
          have g8R := Lib.hid gr
          clear gv gr xx hgn
          replace SB := Lib.hid (show m + 2 ≤ g8 by rw [g8S.out]; exact SB.out)
          clear g8S
          obtain ⟨q0c, q21, q22, q55, q56⟩ := Q1.out.cells
          obtain ⟨r0, r5, r6, r7, r8, r9⟩ := g8R.out.cells
          obtain ⟨v4, v21, v22, v23, v40, v41⟩ := V0.out.cells
          obtain ⟨n4, n21, n22, n23, n40, n41⟩ := g8V.out.cells
          unfold Pt.V at r7
          rw [show r.why = 0 from RW.out] at r0
          clear q21 q55 q56 r8 r9 v21 v22 v23 v40 v41 n4 n21 n22 n23 n40 n41 v4
          rw [show q7.op = 4 from HO.out] at q0c
          have rl : r.sec.l.length = 0 := by rw [show r.sec.l = [] from RS.out]; rfl
          rw [rl] at r7
          clear rl
          rw [show r.gen = v.gen from RG.out] at r5
          go_wp2_with (first | (with_reducible refine stop_load (t := 30) ?_) | (with_reducible refine stop_store (t := 30) ?_) | (with_reducible refine stop_load (t := 33) ?_) | (with_reducible refine stop_store (t := 33) ?_) | (with_reducible refine stop_load (t := 39) ?_) | (with_reducible refine stop_store (t := 39) ?_) | (with_reducible refine stop_load (t := 27) ?_) | (with_reducible refine stop_store (t := 27) ?_) | (with_reducible refine stop_load (t := 24) ?_) | (with_reducible refine stop_store (t := 24) ?_) | (with_reducible refine stop_build ?_) | (with_reducible refine stop_eql (t := 27) ?_) | (with_reducible refine stop_neq (t := 27) ?_) | (with_reducible refine stop_eql (t := 24) ?_) | (with_reducible refine stop_neq (t := 24) ?_) | (with_reducible refine stop_load (t := 36) ?_) | (with_reducible refine stop_look ?_) | (with_reducible refine stop_mput ?_) | (with_reducible refine stop_store (t := 3) ?_))
          (first | ((with_reducible refine ⟨?_⟩); (with_reducible refine at_not ?_ ?_); (focus (go_simp; done)); go_wp2_with (first | (with_reducible refine stop_load (t := 30) ?_) | (with_reducible refine stop_store (t := 30) ?_) | (with_reducible refine stop_load (t := 33) ?_) | (with_reducible refine stop_store (t := 33) ?_) | (with_reducible refine stop_load (t := 39) ?_) | (with_reducible refine stop_store (t := 39) ?_) | (with_reducible refine stop_load (t := 27) ?_) | (with_reducible refine stop_store (t := 27) ?_) | (with_reducible refine stop_load (t := 24) ?_) | (with_reducible refine stop_store (t := 24) ?_) | (with_reducible refine stop_build ?_) | (with_reducible refine stop_eql (t := 27) ?_) | (with_reducible refine stop_neq (t := 27) ?_) | (with_reducible refine stop_eql (t := 24) ?_) | (with_reducible refine stop_neq (t := 24) ?_) | (with_reducible refine stop_load (t := 36) ?_) | (with_reducible refine stop_look ?_) | (with_reducible refine stop_mput ?_) | (with_reducible refine stop_store (t := 3) ?_))) | skip)
          (first | ((with_reducible refine ⟨?_⟩); (with_reducible refine at_not ?_ ?_); (focus (go_simp; done)); go_wp2_with (first | (with_reducible refine stop_load (t := 30) ?_) | (with_reducible refine stop_store (t := 30) ?_) | (with_reducible refine stop_load (t := 33) ?_) | (with_reducible refine stop_store (t := 33) ?_) | (with_reducible refine stop_load (t := 39) ?_) | (with_reducible refine stop_store (t := 39) ?_) | (with_reducible refine stop_load (t := 27) ?_) | (with_reducible refine stop_store (t := 27) ?_) | (with_reducible refine stop_load (t := 24) ?_) | (with_reducible refine stop_store (t := 24) ?_) | (with_reducible refine stop_build ?_) | (with_reducible refine stop_eql (t := 27) ?_) | (with_reducible refine stop_neq (t := 27) ?_) | (with_reducible refine stop_eql (t := 24) ?_) | (with_reducible refine stop_neq (t := 24) ?_) | (with_reducible refine stop_load (t := 36) ?_) | (with_reducible refine stop_look ?_) | (with_reducible refine stop_mput ?_) | (with_reducible refine stop_store (t := 3) ?_))) | skip)
          (first | ((with_reducible refine ⟨?_⟩); (with_reducible refine at_not ?_ ?_); (focus (go_simp; done)); go_wp2_with (first | (with_reducible refine stop_load (t := 30) ?_) | (with_reducible refine stop_store (t := 30) ?_) | (with_reducible refine stop_load (t := 33) ?_) | (with_reducible refine stop_store (t := 33) ?_) | (with_reducible refine stop_load (t := 39) ?_) | (with_reducible refine stop_store (t := 39) ?_) | (with_reducible refine stop_load (t := 27) ?_) | (with_reducible refine stop_store (t := 27) ?_) | (with_reducible refine stop_load (t := 24) ?_) | (with_reducible refine stop_store (t := 24) ?_) | (with_reducible refine stop_build ?_) | (with_reducible refine stop_eql (t := 27) ?_) | (with_reducible refine stop_neq (t := 27) ?_) | (with_reducible refine stop_eql (t := 24) ?_) | (with_reducible refine stop_neq (t := 24) ?_) | (with_reducible refine stop_load (t := 36) ?_) | (with_reducible refine stop_look ?_) | (with_reducible refine stop_mput ?_) | (with_reducible refine stop_store (t := 3) ?_))) | skip)
          (with_reducible refine ⟨?_⟩); (with_reducible refine at_any ?_ ?_); (focus go_simp); refine fun K0 hK => ld_v _ _ v' rfl rfl g8V.out (hK _ _ ?_)
          clear hK
          go_wp2_with (first | (with_reducible refine stop_load (t := 30) ?_) | (with_reducible refine stop_store (t := 30) ?_) | (with_reducible refine stop_load (t := 33) ?_) | (with_reducible refine stop_store (t := 33) ?_) | (with_reducible refine stop_load (t := 39) ?_) | (with_reducible refine stop_store (t := 39) ?_) | (with_reducible refine stop_load (t := 27) ?_) | (with_reducible refine stop_store (t := 27) ?_) | (with_reducible refine stop_load (t := 24) ?_) | (with_reducible refine stop_store (t := 24) ?_) | (with_reducible refine stop_build ?_) | (with_reducible refine stop_eql (t := 27) ?_) | (with_reducible refine stop_neq (t := 27) ?_) | (with_reducible refine stop_eql (t := 24) ?_) | (with_reducible refine stop_neq (t := 24) ?_) | (with_reducible refine stop_load (t := 36) ?_) | (with_reducible refine stop_look ?_) | (with_reducible refine stop_mput ?_) | (with_reducible refine stop_store (t := 3) ?_))
          (with_reducible refine ⟨?_⟩); (with_reducible refine at_any ?_ ?_); (focus go_simp); refine fun K0 hK => st_v _ _ B v' rfl rfl rfl VI1.out.ok V0.out.2 (by rw [List.size_toArray, Vt.len V0.out.1]) (fun w20 hd ho => hK _ _ ?_)
          clear hK
          replace V0 := Lib.hid hd
          have VN2 := Lib.hid (show VN w20 (m + 2) v' from ⟨VI1.out.ok, VN1.out.only ho (by omega)⟩)
          replace M1 := Lib.hid (ho.mb M1.out (by omega))
          replace M2 := Lib.hid (ho.mb M2.out (by omega))
          replace BW := Lib.hid (ho.below w.heap.size (by rw [← HB.out]; exact Nat.le_refl _) w BW.out)
          have IV2 : Hid (Inv v'.ct fw fl ov) := Lib.hid (by rw [VC.out]; exact IV.out.removed (by rw [← VC.out]; exact KP1.out))
          clear hd ho q0c q22 r0 r5 r6 r7
          go_wp2_with (first | (with_reducible refine stop_load (t := 30) ?_) | (with_reducible refine stop_store (t := 30) ?_) | (with_reducible refine stop_load (t := 33) ?_) | (with_reducible refine stop_store (t := 33) ?_) | (with_reducible refine stop_load (t := 39) ?_) | (with_reducible refine stop_store (t := 39) ?_) | (with_reducible refine stop_load (t := 27) ?_) | (with_reducible refine stop_store (t := 27) ?_) | (with_reducible refine stop_load (t := 24) ?_) | (with_reducible refine stop_store (t := 24) ?_) | (with_reducible refine stop_build ?_) | (with_reducible refine stop_eql (t := 27) ?_) | (with_reducible refine stop_neq (t := 27) ?_) | (with_reducible refine stop_eql (t := 24) ?_) | (with_reducible refine stop_neq (t := 24) ?_) | (with_reducible refine stop_load (t := 36) ?_) | (with_reducible refine stop_look ?_) | (with_reducible refine stop_mput ?_) | (with_reducible refine stop_store (t := 3) ?_))
          go_roundw
          case rel => exact ⟨k + 1, v', _, _, _, n1, n2, by omega, by omega, rfl, by go_num, by omega, by omega, V0, VN2, IV2, M1, M2, BW⟩
          case measure => simp [intOf]; omega
    · skip
      by_cases hn2 : k < n
      case pos =>
        have q2 : ¬ (k : Int) < 80 := by omega
        have q1 : (k : Int) < (n : Int) := by omega
        go_wp2_with (first | (with_reducible refine stop_load (t := 30) ?_) | (with_reducible refine stop_store (t := 30) ?_) | (with_reducible refine stop_load (t := 33) ?_) | (with_reducible refine stop_store (t := 33) ?_) | (with_reducible refine stop_load (t := 39) ?_) | (with_reducible refine stop_store (t := 39) ?_) | (with_reducible refine stop_load (t := 27) ?_) | (with_reducible refine stop_store (t := 27) ?_) | (with_reducible refine stop_load (t := 24) ?_) | (with_reducible refine stop_store (t := 24) ?_) | (with_reducible refine stop_build ?_) | (with_reducible refine stop_eql (t := 27) ?_) | (with_reducible refine stop_neq (t := 27) ?_) | (with_reducible refine stop_eql (t := 24) ?_) | (with_reducible refine stop_neq (t := 24) ?_) | (with_reducible refine stop_load (t := 36) ?_) | (with_reducible refine stop_look ?_) | (with_reducible refine stop_mput ?_) | (with_reducible refine stop_store (t := 3) ?_))
        refine (known11 wr).mono ?_
        rintro e w3 ⟨rfl, xx⟩
        have BW3 := Lib.hid (Ex.trans BW.out xx)
        clear xx
        go_wp2_with fail
        go_ret
        exact ⟨rfl, BW3.out⟩
      have q1 : ¬ (k : Int) < (n : Int) := by omega
      go_wp2_with (first | (with_reducible refine stop_load (t := 30) ?_) | (with_reducible refine stop_store (t := 30) ?_) | (with_reducible refine stop_load (t := 33) ?_) | (with_reducible refine stop_store (t := 33) ?_) | (with_reducible refine stop_load (t := 39) ?_) | (with_reducible refine stop_store (t := 39) ?_) | (with_reducible refine stop_load (t := 27) ?_) | (with_reducible refine stop_store (t := 27) ?_) | (with_reducible refine stop_load (t := 24) ?_) | (with_reducible refine stop_store (t := 24) ?_) | (with_reducible refine stop_build ?_) | (with_reducible refine stop_eql (t := 27) ?_) | (with_reducible refine stop_neq (t := 27) ?_) | (with_reducible refine stop_eql (t := 24) ?_) | (with_reducible refine stop_neq (t := 24) ?_) | (with_reducible refine stop_load (t := 36) ?_) | (with_reducible refine stop_look ?_) | (with_reducible refine stop_mput ?_) | (with_reducible refine stop_store (t := 3) ?_))
      refine (known11 wr).mono ?_
      rintro e w3 ⟨rfl, xx⟩
      have BW3 := Lib.hid (Ex.trans BW.out xx)
      clear xx
      go_wp2_with fail
      go_ret
      exact ⟨rfl, BW3.out⟩
end Go.Proofs.Ytedljddjmojeeaa
