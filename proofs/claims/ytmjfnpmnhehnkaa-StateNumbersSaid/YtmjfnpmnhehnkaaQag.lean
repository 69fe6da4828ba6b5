/- Td -/
import Derived.Test.YtmjfnpmnhehnkaaQaf
set_option maxRecDepth 100000
set_option maxHeartbeats 16000000
namespace Go.Proofs.Ytmjfnpmnhehnkaa
open Go.RowKit
def RowPost (c : List Vc) (w : World) (e : Ending) (w' : World) : Prop := ∃ (v : Value) (ys : List Vt), e = .returned v ∧ VRow w' w.heap.size v ys ∧ ys.map Vt.ct = c ∧ Ex w w'
theorem ownvs_any (ad : Option Addr) (cap : Nat) (xs : List Vt) (hL : xs.length ≤ 1000) (w : World) (hin : Vp.In ad cap xs w) (hvi : ∀ (i : Nat) (x : Vt), xs[i]? = some x → VI w x ∧ x.sec.l.length ≤ 64) : Calls Try.prog 104 #[.slice ad xs.length cap] w (RowPost (xs.map Vt.ct) w) := by
 have HIN := Hi hin
 have HVI := Hi hvi
 obtain ⟨n, hn⟩ : ∃ n, n = xs.length := ⟨_, rfl⟩
 rw [← hn] at hL ⊢
 have HN := Hi hn
 clear hn hin hvi
 go_enter Try.func104, Try.ntmps104
 go_wp2_with (first | ((with_reducible refine so4 [36, 1000+36, 32, 1000+32, 4000+36] ?_ ?_); (focus rfl)) | (with_reducible refine stop_bs (t := 37) ?_) | (with_reducible refine stop_app ?_))
 go_loopw [3, 8] (fun v i wr => ∃ (k : Nat) (ys : List Vt), k ≤ n ∧ i = .int .i64 k ∧ Hid (VRow wr w.heap.size v ys) ∧ Hid (ys.length = k ∧ ys.map Vt.ct = (xs.take k).map Vt.ct) ∧ Hid (Ex w wr)) (fun _ i _ => n - (intOf i).toNat)
 case atStart => exact ⟨0, [], by omega, rfl, Hi (VRow.nil _ _), Hi ⟨rfl, rfl⟩, Hi (Ex.refl _)⟩
 obtain ⟨k, ys, hk, rfl, VR, HY, BW⟩ := hrel
 by_cases hlt : k < n
 rotate_left
 ·obtain rfl : k = n := by omega
  have q1 : ¬ (k : Int) < (k : Int) := by omega
  go_wp2_with fail
  go_ret
  exact ⟨_, ys, rfl, VR.out, by rw [HY.out.2, HN.out, List.take_length], BW.out⟩
 have q0 : (0 : Int) ≤ (k : Int) := by omega
 have q1 : (k : Int) < (n : Int) := by omega
 obtain ⟨x, hx⟩ : ∃ x, xs[k]? = some x := ⟨_, List.getElem?_eq_getElem (by rw [← HN.out]; omega)⟩
 obtain ⟨ab, o, rfl, hab2, hra⟩ := (HIN.out.ext BW.out).read (by rw [← HN.out]; omega)
 have XR := Hi (hra k x hx)
 have XV := Hi (HVI.out k x hx)
 have HXK := Hi hx
 clear hra hab2 hx
 go_wp2_with (first | ((with_reducible refine so4 [36, 1000+36, 32, 1000+32, 4000+36] ?_ ?_); (focus rfl)) | (with_reducible refine stop_bs (t := 37) ?_) | (with_reducible refine stop_app ?_))
 refine at9 (by go_simp) fun K0 hK => ld_vr _ ab (o + k * 42) x XV.out.1.ok rfl rfl XR.out (hK _ _ ?_)
 clear hK
 go_wp2_with (first | ((with_reducible refine so4 [36, 1000+36, 32, 1000+32, 4000+36] ?_ ?_); (focus rfl)) | (with_reducible refine stop_bs (t := 37) ?_) | (with_reducible refine stop_app ?_))
 refine at9 (by go_simp) fun K0 hK => st_v _ _ wr.heap.size x rfl rfl rfl XV.out.1.ok (Bk.new rfl _ _) (by rfl) (fun w2 hd ho => hK _ _ ?_)
 clear hK
 have xx : Ex wr w2 := ho.below wr.heap.size (Nat.le_refl _) wr (Ex.alloc wr _)
 have HD := Hi hd
 replace BW := Hi (Ex.trans BW.out xx)
 replace VR := Hi (VR.out.ext xx)
 obtain ⟨g, hg⟩ : ∃ g, g = wr.heap.size := ⟨_, rfl⟩
 rw [← hg] at HD ⊢
 clear xx hd ho hg XR
 go_wp2_with (first | ((with_reducible refine so4 [36, 1000+36, 32, 1000+32, 4000+36] ?_ ?_); (focus rfl)) | (with_reducible refine stop_bs (t := 37) ?_) | (with_reducible refine stop_app ?_))
 refine at9 (by go_simp) fun K0 hK => ld_v _ g x rfl rfl HD.out (hK _ _ ?_)
 clear hK
 go_wp2_with (first | ((with_reducible refine so4 [36, 1000+36, 32, 1000+32, 4000+36] ?_ ?_); (focus rfl)) | (with_reducible refine stop_bs (t := 37) ?_) | (with_reducible refine stop_app ?_))
 refine (ownv_any x (Nat.le_trans XV.out.2 (by decide)) w2 (XV.out.1.ext BW.out)).mono ?_
 rintro e w3 ⟨p, rfl, hpl, hpn, x2⟩
 obtain ⟨z, hz⟩ : ∃ z : Vt, z = { x with sec := p } := ⟨_, rfl⟩
 have HZ : Hid (TVN w3 z) := Hi (by rw [hz]; exact ⟨⟨XV.out.1.ok.idN, XV.out.1.ok.gen0, XV.out.1.ok.gen1, XV.out.1.ok.pinN, XV.out.1.ok.lim0, XV.out.1.ok.lim1, XV.out.1.ok.used0, XV.out.1.ok.used1, XV.out.1.ok.ownN⟩, hpn.less (Nat.zero_le _), by rw [hpl]; exact XV.out.2⟩)
 have HZC : Hid (z.ct = x.ct) := Hi (by rw [hz]; unfold Vt.ct; simp only [hpl])
 rw [← hz]
 replace BW := Hi (Ex.trans BW.out x2)
 replace VR := Hi (VR.out.ext x2)
 clear hz hpl hpn x2 HD
 go_wp2_with (first | ((with_reducible refine so4 [36, 1000+36, 32, 1000+32, 4000+36] ?_ ?_); (focus rfl)) | (with_reducible refine stop_bs (t := 37) ?_) | (with_reducible refine stop_app ?_))
 refine at9 (by go_simp) fun K0 hK => wp_bsv _ z HZ.out.ok rfl rfl (hK _ _ ?_)
 clear hK
 have xa := Ex.alloc w3 (.cells z.C.toArray 36)
 have NB := Hi (Bk.new (g := w3.heap.size) (w := w3) rfl 36 z.C.toArray)
 replace HZ := Hi (HZ.out.ext xa)
 replace BW := Hi (Ex.trans BW.out xa)
 replace VR := Hi (VR.out.ext xa)
 generalize hw4 : w3.alloc (.cells z.C.toArray 36) = w4 at *
 obtain ⟨g2, hg⟩ : ∃ g, g = w3.heap.size := ⟨_, rfl⟩
 rw [← hg] at NB ⊢
 clear hw4 hg xa
 have MR := Hi (Many.rd (n := 1) (sz := 42) ⟨g2, rfl, NB.out⟩ (Vt.len HZ.out.ok))
 go_wp2_with (first | ((with_reducible refine so4 [36, 1000+36, 32, 1000+32, 4000+36] ?_ ?_); (focus rfl)) | (with_reducible refine stop_bs (t := 37) ?_) | (with_reducible refine stop_app ?_))
 obtain ⟨adx, ex, nx, rx⟩ := MR.out
 cases ex
 have RX := Hi rx
 clear rx nx MR
 refine at9 (by go_simp) fun K0 hK => wp_rd _ _ 37 36 zeroVt.V 42 96 rfl Try.underlying37 Try.infoVt rfl (by decide) w.heap.size ys.length _ _ rfl VR.out.row BW.out.sz' _ 1 1 _ rfl RX.out (Nat.le_refl _) (fun h => by cases h) (Vt.C_one z) (by have := HY.out.1; omega) (by have := HY.out.1; omega) (fun v5 w5 r1 r2 => hK _ _ ?_)
 clear hK
 replace BW := Hi (show Ex w w5 from Below.trans (show Below w.heap.size w _ from BW.out) r2.below)
 replace VR := Hi (VR.out.app r2 r1 HZ.out)
 replace HY : Hid ((ys ++ [z]).length = k + 1 ∧ (ys ++ [z]).map Vt.ct = (xs.take (k + 1)).map Vt.ct) := Hi ⟨by rw [List.length_append, HY.out.1]; rfl, by rw [List.map_append, HY.out.2, List.take_add_one, HXK.out, List.map_append]; simp [HZC.out]⟩
 clear r1 r2
 go_wp2_with (first | ((with_reducible refine so4 [36, 1000+36, 32, 1000+32, 4000+36] ?_ ?_); (focus rfl)) | (with_reducible refine stop_bs (t := 37) ?_) | (with_reducible refine stop_app ?_))
 (first | (refine ⟨?_, ?measure⟩; (repeat apply Exists.intro); refine ⟨?rel, rfl⟩) | refine ⟨?rel, ?measure⟩)
 case rel => exact ⟨k + 1, ys ++ [z], by omega, by go_num, VR, HY, BW⟩
 case measure => simp [intOf]; omega
theorem tall_any (D : Nat) (rv : Value) (vs : List Vt) (w : World) (h : TB w D rv vs) : Calls Try.prog 63 #[.pointer (some ⟨D, 0, none⟩)] w (RowPost (vs.map Vt.ct) w) := by
 obtain ⟨ad, cap, rfl, hin⟩ := h.row.inn
 have CO := Hi (ownvs_any ad cap vs (Nat.le_trans h.len (by decide)) w hin (fun i x hx => ⟨(h.row.ins i x hx).vi, (h.row.ins i x hx).len⟩))
 have c0 : w.cell? ⟨D, 0, none⟩ = some (.slice ad vs.length cap) := h.blk.cell 0
 clear h hin
 generalize vs.length = n at *
 go_enter Try.func63, Try.ntmps63
 go_wp2_with (first | ((with_reducible refine so4 [36, 1000+36, 32, 1000+32, 4000+36] ?_ ?_); (focus rfl)) | (with_reducible refine stop_bs (t := 37) ?_) | (with_reducible refine stop_app ?_))
 refine CO.out.mono ?_
 rintro e w1 ⟨v, ys, rfl, h1, h2, h3⟩
 have H1 := Hi h1
 have H2 := Hi h2
 have H3 := Hi h3
 clear h1 h2 h3 c0
 go_wp2_with fail
 go_ret
 exact ⟨_, ys, rfl, H1.out, H2.out, H3.out⟩
def GetPost (n : Nat) (vs : List Vt) (X : Nat) (w : World) (e : Ending) (w' : World) : Prop := ∃ (x : Vt) (b : Bool), e = .returned (.tuple #[x.V, .bool b]) ∧ b = decide (∃ q, q < n ∧ idF vs q = X) ∧ (b = true → ∃ q y, vs[q]? = some y ∧ idF vs q = X ∧ x.ct = y.ct) ∧ (b = false → x.ct = zeroVc) ∧ TVN w' x ∧ Ex w w'
theorem tget_any (D : Nat) (rv : Value) (vs : List Vt) (id : List UInt8) (w : World) (h : TB w D rv vs) (hid : id.length = 4) : Calls Try.prog 71 #[.pointer (some ⟨D, 0, none⟩), digV id] w (GetPost vs.length vs (idn id) w) := by
 obtain ⟨ds, hds⟩ : ∃ ds, ds = (Lib.byteCells id).toArray := ⟨_, rfl⟩
 have B0 : Hid (Bk ((w.alloc (.cells ds 32)).alloc (.cells zeroVt.C.toArray 36)) w.heap.size 32 (Lib.byteCells id).toArray) := Hi (by rw [hds]; exact (Bk.new rfl _ _).more _)
 have Z0 : Hid (VB ((w.alloc (.cells ds 32)).alloc (.cells zeroVt.C.toArray 36)) (w.heap.size + 1) zeroVt) := Hi ⟨zeroVt_ok, Bk.new (by simp) _ _⟩
 have BW : Hid (Ex w ((w.alloc (.cells ds 32)).alloc (.cells zeroVt.C.toArray 36))) := Hi (Ex.trans (Ex.alloc w _) (Ex.alloc _ _))
 have HTB := Hi (h.ext BW.out)
 obtain ⟨ad, cap, rfl, _⟩ := h.row.inn
 have HID := Hi hid
 have HMN := Hi h.mono
 rw [show (Calls Try.prog 71 #[.pointer (some ⟨D, 0, none⟩), digV id] w) = (Calls Try.prog 71 #[.pointer (some ⟨D, 0, none⟩), .agg ds] w) by rw [hds]; rfl]
 obtain ⟨n, hn⟩ : ∃ n, n = vs.length := ⟨_, rfl⟩
 rw [← hn] at HTB HMN ⊢
 have HN := Hi hn
 clear hds hid h hn
 go_enter Try.func71, Try.ntmps71
 go_wp2_with (first | ((with_reducible refine so4 [36, 1000+36, 32, 1000+32, 4000+36] ?_ ?_); (focus rfl)) | (with_reducible refine stop_bs (t := 37) ?_) | (with_reducible refine stop_app ?_))
 (with_reducible refine ⟨?_⟩)
 change wpList _ _ _ _ _ ((w.alloc (.cells ds 32)).alloc (.cells zeroVt.C.toArray 36))
 generalize hw1 : ((w.alloc (.cells ds 32)).alloc (.cells zeroVt.C.toArray 36)) = w1 at *
 clear hw1
 obtain ⟨g, hg⟩ : ∃ g, g = w.heap.size := ⟨_, rfl⟩
 have HG := Hi hg
 rw [← hg] at B0 Z0 ⊢
 clear hg
 (with_reducible refine at_any ?_ ?_); (focus go_simp); refine fun K0 hK => ld_idb _ g id HID.out rfl rfl B0.out (hK _ _ ?_)
 clear hK
 go_wp2_with (first | ((with_reducible refine so4 [36, 1000+36, 32, 1000+32, 4000+36] ?_ ?_); (focus rfl)) | (with_reducible refine stop_bs (t := 37) ?_) | (with_reducible refine stop_app ?_))
 have CF := find_any D (.slice ad n cap) vs id w1 HTB.out HID.out
 rw [← HN.out] at CF
 refine CF.mono ?_
 rintro e w2 ⟨p, rfl, hbi, x2⟩
 clear CF
 have HBI := Hi hbi
 obtain ⟨b, hb⟩ : ∃ b, b = decide (∃ q, q < n ∧ idF vs q = idn id) := ⟨_, rfl⟩
 rw [← hb]
 have HB := Hi hb
 replace HTB := Hi (HTB.out.ext x2)
 replace Z0 := Hi (Z0.out.ext x2)
 replace BW := Hi (Ex.trans BW.out x2)
 clear hbi hb x2
 cases b
 ·skip
  go_wp2_with (first | ((with_reducible refine so4 [36, 1000+36, 32, 1000+32, 4000+36] ?_ ?_); (focus rfl)) | (with_reducible refine stop_bs (t := 37) ?_) | (with_reducible refine stop_app ?_))
  refine at9 (by go_simp) fun K0 hK => wp_build _ _ rfl _ built_zero (hK _ _ ?_)
  clear hK
  go_wp2_with (first | ((with_reducible refine so4 [36, 1000+36, 32, 1000+32, 4000+36] ?_ ?_); (focus rfl)) | (with_reducible refine stop_bs (t := 37) ?_) | (with_reducible refine stop_app ?_))
  refine at9 (by go_simp) fun K0 hK => st_v _ _ (g + 1) zeroVt rfl rfl rfl zeroVt_ok Z0.out.2 (by rfl) (fun w3 hd ho => hK _ _ ?_)
  clear hK
  have BX := Hi (ho.below w.heap.size (by have := HG.out; omega) w BW.out)
  have HD := Hi hd
  clear hd ho
  go_wp2_with fail
  exact bodyPost_ret (res_v2 rfl _ _ (g + 1) rfl zeroVt HD.out) rfl ⟨zeroVt, false, rfl, HB.out, (fun h => by cases h), fun _ => rfl, ⟨zeroVt_ok, nilB_pn _ _, by decide⟩, BX.out⟩
 have hex : ∃ q, q < n ∧ idF vs q = idn id := of_decide_eq_true HB.out.symm
 have hpp : p < n ∧ idF vs p = idn id := by
  obtain ⟨q, hq1, hq2⟩ := hex
  obtain ⟨z1, z2, z3⟩ := HBI.out
  have hpq : p ≤ q := by
   rcases Nat.lt_or_ge q p with h | h
   ·have := z2 q h; omega
   ·exact h
  have h3 := z3 p (Nat.le_refl _) (by omega)
  have h4 := HMN.out p q hpq hq1
  exact ⟨by omega, by omega⟩
 clear hex
 obtain ⟨hpn, hpf⟩ := hpp
 have HPF := Hi hpf
 have q0 : (0 : Int) ≤ (p : Int) := by omega
 have q1 : (p : Int) < (n : Int) := by omega
 clear hpf
 obtain ⟨x, hx⟩ : ∃ x, vs[p]? = some x := ⟨_, List.getElem?_eq_getElem (by rw [← HN.out]; omega)⟩
 have XV := Hi (HTB.out.row.ins p x hx)
 obtain ⟨ad2, cap2, e2, hin⟩ := HTB.out.row.inn
 rw [← HN.out] at e2
 cases e2
 obtain ⟨ab, o, rfl, hab2, hra⟩ := hin.read (by rw [← HN.out]; omega)
 have XR := Hi (hra p x hx)
 have HXK := Hi hx
 have c0 : w2.cell? ⟨D, 0, none⟩ = some (.slice (some ⟨ab, o, none⟩) n cap) := HTB.out.blk.cell 0
 clear hra hab2 hx hin
 go_wp2_with (first | ((with_reducible refine so4 [36, 1000+36, 32, 1000+32, 4000+36] ?_ ?_); (focus rfl)) | (with_reducible refine stop_bs (t := 37) ?_) | (with_reducible refine stop_app ?_))
 refine at9 (by go_simp) fun K0 hK => ld_vr _ ab (o + p * 42) x XV.out.ok rfl rfl XR.out (hK _ _ ?_)
 clear hK
 go_wp2_with (first | ((with_reducible refine so4 [36, 1000+36, 32, 1000+32, 4000+36] ?_ ?_); (focus rfl)) | (with_reducible refine stop_bs (t := 37) ?_) | (with_reducible refine stop_app ?_))
 refine (ownv_any x (Nat.le_trans XV.out.len (by decide)) w2 XV.out.vi).mono ?_
 rintro e w3 ⟨s, rfl, hpl, hps, x2⟩
 obtain ⟨z, hz⟩ : ∃ z : Vt, z = { x with sec := s } := ⟨_, rfl⟩
 have HZ : Hid (TVN w3 z) := Hi (by rw [hz]; exact ⟨⟨XV.out.ok.idN, XV.out.ok.gen0, XV.out.ok.gen1, XV.out.ok.pinN, XV.out.ok.lim0, XV.out.ok.lim1, XV.out.ok.used0, XV.out.ok.used1, XV.out.ok.ownN⟩, hps.less (Nat.zero_le _), by rw [hpl]; exact XV.out.len⟩)
 have HZC : Hid (z.ct = x.ct) := Hi (by rw [hz]; unfold Vt.ct; simp only [hpl])
 rw [← hz]
 replace BW := Hi (Ex.trans BW.out x2)
 replace Z0 := Hi (Z0.out.ext x2)
 clear hz hpl hps x2 c0
 go_wp2_with (first | ((with_reducible refine so4 [36, 1000+36, 32, 1000+32, 4000+36] ?_ ?_); (focus rfl)) | (with_reducible refine stop_bs (t := 37) ?_) | (with_reducible refine stop_app ?_))
 refine at9 (by go_simp) fun K0 hK => st_v _ _ (g + 1) z rfl rfl rfl HZ.out.ok Z0.out.2 (by rfl) (fun w4 hd ho => hK _ _ ?_)
 clear hK
 have BX := Hi (ho.below w.heap.size (by have := HG.out; omega) w BW.out)
 have HD := Hi hd
 have HZ4 := Hi (show TVN w4 z from ⟨HZ.out.ok, HZ.out.sec.onlyT ho Z0.out.2 (by decide), HZ.out.len⟩)
 clear hd ho
 go_wp2_with fail
 exact bodyPost_ret (res_v2 rfl _ _ (g + 1) rfl z HD.out) rfl ⟨z, true, rfl, HB.out, (fun _ => ⟨p, x, HXK.out, HPF.out, HZC.out⟩), (fun h => by cases h), HZ4.out, BX.out⟩
end Go.Proofs.Ytmjfnpmnhehnkaa
