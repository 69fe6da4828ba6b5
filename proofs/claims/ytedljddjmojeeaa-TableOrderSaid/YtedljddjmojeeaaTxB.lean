/- TableOrder walked, one way of three -/
import Derived.Test.YtedljddjmojeeaaTw
namespace Go.Proofs.Ytedljddjmojeeaa
open Go.RowKit
set_option maxHeartbeats 4000000 in
set_option maxRecDepth 100000 in
theorem order_B (ad1 ad2 : Option Addr) (cap1 cap2 n1 : Nat) (Z : Nat → Int) (l2 : List Kv) (hL2 : l2.length ≤ 9223372036854775807) (hv : l2.length < n1 ∧ l2.length ≤ 30) (w : World) (hin1 : IIn ad1 n1 Z w) (hin2 : Kvp.In ad2 cap2 l2 w) : Calls Try.prog 7 #[.slice ad1 n1 cap1, .slice ad2 l2.length cap2] w fun e w' => e = .returned (.bool true) ∧ Ex w w' := by
 have HI1 := Lib.hid hin1
 have HI2 := Lib.hid hin2
 obtain ⟨n2, hn2⟩ : ∃ n, n = l2.length := ⟨_, rfl⟩
 rw [← hn2] at hL2 hv ⊢
 have HN2 := Lib.hid hn2
 clear hn2 hin1 hin2
 have hL1 := HI1.out.1
 obtain ⟨m, hm⟩ : ∃ m : Nat, m = n2 := ⟨_, rfl⟩
 have hm1 : m ≤ n1 := by omega
 have hm2 : m ≤ n2 := by omega
 have hm30 : m ≤ 30 := by omega
 go_enter Try.func7, Try.ntmps7
 go_wp2_with (first | (with_reducible refine stop_load (t := 30) ?_) | (with_reducible refine stop_store (t := 30) ?_) | (with_reducible refine stop_load (t := 24) ?_) | (with_reducible refine stop_store (t := 24) ?_) | (with_reducible refine stop_mu ?_) | (with_reducible refine stop_lk ?_))
 refine (tnew_any w).mono ?_
 rintro e w1 ⟨D, rfl, hD, ht, x1⟩
 have HD := Lib.hid hD
 have HT := Lib.hid ht
 have BW := Lib.hid x1
 clear hD ht x1
 go_wp2_with (first | (with_reducible refine stop_load (t := 30) ?_) | (with_reducible refine stop_store (t := 30) ?_) | (with_reducible refine stop_load (t := 24) ?_) | (with_reducible refine stop_store (t := 24) ?_) | (with_reducible refine stop_mu ?_) | (with_reducible refine stop_lk ?_))
 rw [show (Instr.makeMap 56 none).run Try.prog w1 = .ok (.map (some w1.heap.size)) (w1.alloc (.map #[] 0)) from rfl]
 simp only [Result.andThen]
 rw [Oper.upon_value]
 go_wp2_with (first | (with_reducible refine stop_load (t := 30) ?_) | (with_reducible refine stop_store (t := 30) ?_) | (with_reducible refine stop_load (t := 24) ?_) | (with_reducible refine stop_store (t := 24) ?_) | (with_reducible refine stop_mu ?_) | (with_reducible refine stop_lk ?_))
 have hex : ∃ (w2 : World) (b : Nat), w2 = w1.alloc (.map #[] 0) ∧ b = w1.heap.size := ⟨_, _, rfl, rfl⟩
 obtain ⟨w2, b, hw2, hb⟩ := hex
 have xa : Ex w1 w2 := by rw [hw2]; exact Ex.alloc _ _
 have OS0 : Hid (OS w w2 D (.slice none 0 0) [] b []) := Lib.hid ⟨HT.out.ext xa, ⟨⟨#[], 0, by rw [hw2, hb]; exact heap_alloc_new w1 _, rfl⟩, fun p hp => (by cases hp), List.nodup_nil⟩, fun p hp => (by cases hp), rfl, fun y hy => (by cases hy), fun p hp => (by cases hp), fun y hy => (by cases hy), HD.out, by rw [hb]; exact BW.out.sz', Ex.trans BW.out xa⟩
 rw [← hw2, ← hb]
 clear hw2 hb xa HT BW
 go_loopw [7] (fun i wr => ∃ (k : Nat) (rv : Value) (vs : List Vt) (ps : List (List UInt8 × Vt)), k ≤ m ∧ i = .int .i64 k ∧ Hid (OS w wr D rv vs b ps)) (fun i _ => m - (intOf i).toNat)
 case atStart => exact ⟨0, _, _, _, by omega, rfl, OS0⟩
 case round =>
  clear OS0
  obtain ⟨k, rv, vs, ps, hk, rfl, P⟩ := hrel
  by_cases hlt : k < m
  ·have q0 : (0 : Int) ≤ (k : Int) := by omega
   have q1 : (k : Int) < (n1 : Int) := by omega
   have q2 : (k : Int) < (n2 : Int) := by omega
   have q3 : (k : Int) < 30 := by omega
   obtain ⟨ai, oi, rfl, hai, hci⟩ := HI1.out.2.2 (by omega)
   have c0 : wr.cell? ⟨ai, oi + k, none⟩ = some (.int .i64 (Z k)) := (Below.cell (p := ⟨ai, oi + k, none⟩) P.out.ex hai).trans (hci k (by omega))
   obtain ⟨x, hx⟩ : ∃ x, l2[k]? = some x := ⟨_, List.getElem?_eq_getElem (by rw [← HN2.out]; omega)⟩
   obtain ⟨av, ov, rfl, hav, hrv⟩ := HI2.out.read (by rw [← HN2.out]; omega)
   have XR := Lib.hid (range_ex (hrv k x hx) P.out.ex hav)
   have HAV := Lib.hid (Nat.lt_of_lt_of_le hav P.out.ex.sz')
   have XI := Lib.hid ((HI2.out.ins k x hx).ext P.out.ex)
   obtain ⟨c9, hand, hc9⟩ := and_mask (Z k) 3 (by decide)
   obtain ⟨u, hu⟩ : ∃ u : UInt8, u.toNat = c9 := ⟨UInt8.ofNat c9, by rw [UInt8.toNat_ofNat']; exact Nat.mod_eq_of_lt (by omega)⟩
   rw [← hu] at hand hc9
   have hmask : bits BinOp.and IntKind.i64 (Z k) 3 % 256 = ((u.toNat : Nat) : Int) := by rw [show bits BinOp.and IntKind.i64 (Z k) 3 = ((u.toNat : Nat) : Int) from hand]; omega
   have HMK := Lib.hid hmask
   have HC9 := Lib.hid hc9
   clear hu hand hc9 hmask hai hci hav hrv hx
   go_wp2_with (first | (with_reducible refine stop_load (t := 30) ?_) | (with_reducible refine stop_store (t := 30) ?_) | (with_reducible refine stop_load (t := 24) ?_) | (with_reducible refine stop_store (t := 24) ?_) | (with_reducible refine stop_mu ?_) | (with_reducible refine stop_lk ?_))
   rw [HMK.out]
   (with_reducible refine ⟨?_⟩); (with_reducible refine at_any ?_ ?_); (focus go_simp); refine fun K0 hK => st_new _ _ wr.heap.size [u, 0, 0, 0] _ rfl rfl rfl (Bk.new rfl _ _) rfl Try.sizeId (fun w3 hd ho => hK _ _ ?_)
   clear hK
   have xx : Ex wr w3 := ho.below wr.heap.size (Nat.le_refl _) wr (Ex.alloc wr _)
   replace P := Lib.hid (P.out.ext xx)
   replace XR := Lib.hid (range_ex XR.out xx HAV.out)
   replace HAV := Lib.hid (Nat.lt_of_lt_of_le HAV.out xx.sz')
   replace XI := Lib.hid (XI.out.ext xx)
   obtain ⟨g8, hg8⟩ : ∃ g, g = wr.heap.size := ⟨_, rfl⟩
   rw [← hg8] at hd ⊢
   have G8 := Lib.hid hd
   clear xx hd ho hg8 c0 HMK
   go_wp2_with fail
   obtain ⟨T, hT⟩ : ∃ T : List Sa, T = [.is (.slice (some ⟨av, ov, none⟩) n2 cap2), .is (.int .i64 k), .is (.pointer (some ⟨av, ov + k * 8, none⟩)), .is (x.V), .is (digV [u, 0, 0, 0]), .kv [u, 0, 0, 0], .pz w3.heap.size] := ⟨_, rfl⟩
   refine wp_region_flow 7 (saPhi T) (by kernel_rfl) rfl (by kernel_rfl) (by kernel_rfl) (by kernel_rfl) (saPhi_stable T) (fitB_spec (by kernel_rfl)) ?_ ?_
   ·intro i o hi ho
    have hi' : i = 0 ∨ i = 1 ∨ i = 2 ∨ i = 3 ∨ i = 4 ∨ i = 5 ∨ i = 6 := by omega
    clear hi
    rcases hi' with rfl | rfl | rfl | rfl | rfl | rfl | rfl
    all_goals (simp only [List.getElem?_toArray, List.getElem?_cons_zero, List.getElem?_cons_succ, Option.some.injEq] at ho; subst ho; intro a w2 hx hsz hdep hout)
    ·rw [if_pos (by rfl)]
     intro K hK
     have q1 := hout 1 (outB_spec (by kernel_rfl))
     exact wp_mv _ rfl (hK _ _ (Ex.refl _) (by rw [hT]; exact q1))
    ·rw [if_pos (by rfl)]
     intro K hK
     have q7 := hout 7 (outB_spec (by kernel_rfl))
     exact wp_mv _ rfl (hK _ _ (Ex.refl _) (by rw [hT]; exact q7))
    ·rw [if_pos (by rfl)]
     intro K hK
     obtain ⟨v41, h41, k41⟩ := hdep ⟨0, .data⟩ (by simp) rfl _ rfl
     have q41 := k41 _ rfl
     clear k41
     rw [hT] at h41
     obtain rfl : v41 = .slice (some ⟨av, ov, none⟩) n2 cap2 := h41
     obtain ⟨v42, h42, k42⟩ := hdep ⟨1, .data⟩ (by simp) rfl _ rfl
     have q42 := k42 _ rfl
     clear k42
     rw [hT] at h42
     obtain rfl : v42 = .int .i64 k := h42
     rw [Array.getD_eq_getD_getElem?] at q41
     rw [Array.getD_eq_getD_getElem?] at q42
     clear hsz hdep hout
     go_simp
     exact hK _ _ (Ex.refl _) (by rw [hT]; rfl)
    ·rw [if_pos (by rfl)]
     intro K hK
     obtain ⟨v43, h43, k43⟩ := hdep ⟨2, .data⟩ (by simp) rfl _ rfl
     have q43 := k43 _ rfl
     clear k43
     rw [hT] at h43
     obtain rfl : v43 = .pointer (some ⟨av, ov + k * 8, none⟩) := h43
     exact ld_kv (.tmp 43) av (ov + k * 8) x rfl q43 (range_ex XR.out (Ex.trans (show Ex w3 (World.drew w3) from (Below.refl _ _).drew) hx) HAV.out) (hK _ _ (Ex.refl _) (by rw [hT]; rfl))
    ·rw [if_pos (by rfl)]
     intro K hK
     have q8 := hout 8 (outB_spec (by kernel_rfl))
     exact ld_idb (.tmp 8) g8 [u, 0, 0, 0] rfl rfl q8 (G8.out.ext (Ex.trans (show Ex w3 (World.drew w3) from (Below.refl _ _).drew) hx)) (hK _ _ (Ex.refl _) (by rw [hT]; rfl))
    ·rw [if_pos (by rfl)]
     intro K hK
     obtain ⟨v44, h44, k44⟩ := hdep ⟨3, .data⟩ (by simp) rfl _ rfl
     have q44 := k44 _ rfl
     clear k44
     rw [hT] at h44
     obtain rfl : v44 = x.V := h44
     obtain ⟨v45, h45, k45⟩ := hdep ⟨4, .data⟩ (by simp) rfl _ rfl
     have q45 := k45 _ rfl
     clear k45
     rw [hT] at h45
     obtain rfl : v45 = digV [u, 0, 0, 0] := h45
     rw [Array.getD_eq_getD_getElem?] at q44
     rw [Array.getD_eq_getD_getElem?] at q45
     clear hsz hdep hout
     go_simp
     refine (kv_any x [u, 0, 0, 0] rfl w2 (XI.out.ext (Ex.trans (show Ex w3 (World.drew w3) from (Below.refl _ _).drew) hx))).mono ?_
     rintro e w4 ⟨z, rfl, hzn, hzi, hzr, x4⟩
     exact hK _ _ x4 (by rw [hT]; exact ⟨z, rfl, hzn, hzi, hzr⟩)
    ·rw [if_pos (by rfl)]
     intro K hK
     clear hsz hdep hout
     go_simp
     exact hK _ _ (Ex.alloc _ _) (by rw [hT]; exact ⟨_, rfl, Ex.sz' (Ex.trans (show Ex w3 (World.drew w3) from (Below.refl _ _).drew) hx), zeroVt_ok, Bk.new rfl _ _⟩)
   ·intro a w2 hx hdef hsz hdone hout
    obtain ⟨v9, h9, k9⟩ := hdone 6 _ (by omega) rfl
    have q9 := k9 _ rfl
    clear k9
    rw [hT] at h9
    obtain ⟨g9, rfl, l9, b9⟩ := h9
    obtain ⟨v46, h46, k46⟩ := hdone 5 _ (by omega) rfl
    have q46 := k46 _ rfl
    clear k46
    rw [hT] at h46
    obtain ⟨z46, rfl, n46, d46, r46⟩ := h46
    clear hdone hT
    have hA := arr_range a.tmps 109 hsz
    change a.tmps = #[a.tmps[0]?.getD undef, a.tmps[1]?.getD undef, a.tmps[2]?.getD undef, a.tmps[3]?.getD undef, a.tmps[4]?.getD undef, a.tmps[5]?.getD undef, a.tmps[6]?.getD undef, a.tmps[7]?.getD undef, a.tmps[8]?.getD undef, a.tmps[9]?.getD undef, a.tmps[10]?.getD undef, a.tmps[11]?.getD undef, a.tmps[12]?.getD undef, a.tmps[13]?.getD undef, a.tmps[14]?.getD undef, a.tmps[15]?.getD undef, a.tmps[16]?.getD undef, a.tmps[17]?.getD undef, a.tmps[18]?.getD undef, a.tmps[19]?.getD undef, a.tmps[20]?.getD undef, a.tmps[21]?.getD undef, a.tmps[22]?.getD undef, a.tmps[23]?.getD undef, a.tmps[24]?.getD undef, a.tmps[25]?.getD undef, a.tmps[26]?.getD undef, a.tmps[27]?.getD undef, a.tmps[28]?.getD undef, a.tmps[29]?.getD undef, a.tmps[30]?.getD undef, a.tmps[31]?.getD undef, a.tmps[32]?.getD undef, a.tmps[33]?.getD undef, a.tmps[34]?.getD undef, a.tmps[35]?.getD undef, a.tmps[36]?.getD undef, a.tmps[37]?.getD undef, a.tmps[38]?.getD undef, a.tmps[39]?.getD undef, a.tmps[40]?.getD undef, a.tmps[41]?.getD undef, a.tmps[42]?.getD undef, a.tmps[43]?.getD undef, a.tmps[44]?.getD undef, a.tmps[45]?.getD undef, a.tmps[46]?.getD undef, a.tmps[47]?.getD undef, a.tmps[48]?.getD undef, a.tmps[49]?.getD undef, a.tmps[50]?.getD undef, a.tmps[51]?.getD undef, a.tmps[52]?.getD undef, a.tmps[53]?.getD undef, a.tmps[54]?.getD undef, a.tmps[55]?.getD undef, a.tmps[56]?.getD undef, a.tmps[57]?.getD undef, a.tmps[58]?.getD undef, a.tmps[59]?.getD undef, a.tmps[60]?.getD undef, a.tmps[61]?.getD undef, a.tmps[62]?.getD undef, a.tmps[63]?.getD undef, a.tmps[64]?.getD undef, a.tmps[65]?.getD undef, a.tmps[66]?.getD undef, a.tmps[67]?.getD undef, a.tmps[68]?.getD undef, a.tmps[69]?.getD undef, a.tmps[70]?.getD undef, a.tmps[71]?.getD undef, a.tmps[72]?.getD undef, a.tmps[73]?.getD undef, a.tmps[74]?.getD undef, a.tmps[75]?.getD undef, a.tmps[76]?.getD undef, a.tmps[77]?.getD undef, a.tmps[78]?.getD undef, a.tmps[79]?.getD undef, a.tmps[80]?.getD undef, a.tmps[81]?.getD undef, a.tmps[82]?.getD undef, a.tmps[83]?.getD undef, a.tmps[84]?.getD undef, a.tmps[85]?.getD undef, a.tmps[86]?.getD undef, a.tmps[87]?.getD undef, a.tmps[88]?.getD undef, a.tmps[89]?.getD undef, a.tmps[90]?.getD undef, a.tmps[91]?.getD undef, a.tmps[92]?.getD undef, a.tmps[93]?.getD undef, a.tmps[94]?.getD undef, a.tmps[95]?.getD undef, a.tmps[96]?.getD undef, a.tmps[97]?.getD undef, a.tmps[98]?.getD undef, a.tmps[99]?.getD undef, a.tmps[100]?.getD undef, a.tmps[101]?.getD undef, a.tmps[102]?.getD undef, a.tmps[103]?.getD undef, a.tmps[104]?.getD undef, a.tmps[105]?.getD undef, a.tmps[106]?.getD undef, a.tmps[107]?.getD undef, a.tmps[108]?.getD undef] at hA
    have e0 := hout 0 (fun i o _ h => outB_spec (by kernel_rfl) i o h)
    have e1 := hout 1 (fun i o _ h => outB_spec (by kernel_rfl) i o h)
    have e2 := hout 2 (fun i o _ h => outB_spec (by kernel_rfl) i o h)
    have e3 := hout 3 (fun i o _ h => outB_spec (by kernel_rfl) i o h)
    have e4 := hout 4 (fun i o _ h => outB_spec (by kernel_rfl) i o h)
    have e5 := hout 5 (fun i o _ h => outB_spec (by kernel_rfl) i o h)
    have e6 := hout 6 (fun i o _ h => outB_spec (by kernel_rfl) i o h)
    have e7 := hout 7 (fun i o _ h => outB_spec (by kernel_rfl) i o h)
    have e8 := hout 8 (fun i o _ h => outB_spec (by kernel_rfl) i o h)
    have e10 := hout 10 (fun i o _ h => outB_spec (by kernel_rfl) i o h)
    have e11 := hout 11 (fun i o _ h => outB_spec (by kernel_rfl) i o h)
    have e12 := hout 12 (fun i o _ h => outB_spec (by kernel_rfl) i o h)
    have e13 := hout 13 (fun i o _ h => outB_spec (by kernel_rfl) i o h)
    have e14 := hout 14 (fun i o _ h => outB_spec (by kernel_rfl) i o h)
    have e15 := hout 15 (fun i o _ h => outB_spec (by kernel_rfl) i o h)
    have e16 := hout 16 (fun i o _ h => outB_spec (by kernel_rfl) i o h)
    have e17 := hout 17 (fun i o _ h => outB_spec (by kernel_rfl) i o h)
    have e18 := hout 18 (fun i o _ h => outB_spec (by kernel_rfl) i o h)
    have e19 := hout 19 (fun i o _ h => outB_spec (by kernel_rfl) i o h)
    have e20 := hout 20 (fun i o _ h => outB_spec (by kernel_rfl) i o h)
    have e21 := hout 21 (fun i o _ h => outB_spec (by kernel_rfl) i o h)
    have e22 := hout 22 (fun i o _ h => outB_spec (by kernel_rfl) i o h)
    have e23 := hout 23 (fun i o _ h => outB_spec (by kernel_rfl) i o h)
    have e24 := hout 24 (fun i o _ h => outB_spec (by kernel_rfl) i o h)
    have e25 := hout 25 (fun i o _ h => outB_spec (by kernel_rfl) i o h)
    have e26 := hout 26 (fun i o _ h => outB_spec (by kernel_rfl) i o h)
    have e27 := hout 27 (fun i o _ h => outB_spec (by kernel_rfl) i o h)
    have e28 := hout 28 (fun i o _ h => outB_spec (by kernel_rfl) i o h)
    have e29 := hout 29 (fun i o _ h => outB_spec (by kernel_rfl) i o h)
    have e30 := hout 30 (fun i o _ h => outB_spec (by kernel_rfl) i o h)
    have e31 := hout 31 (fun i o _ h => outB_spec (by kernel_rfl) i o h)
    have e32 := hout 32 (fun i o _ h => outB_spec (by kernel_rfl) i o h)
    have e33 := hout 33 (fun i o _ h => outB_spec (by kernel_rfl) i o h)
    have e34 := hout 34 (fun i o _ h => outB_spec (by kernel_rfl) i o h)
    have e35 := hout 35 (fun i o _ h => outB_spec (by kernel_rfl) i o h)
    have e36 := hout 36 (fun i o _ h => outB_spec (by kernel_rfl) i o h)
    have e37 := hout 37 (fun i o _ h => outB_spec (by kernel_rfl) i o h)
    have e38 := hout 38 (fun i o _ h => outB_spec (by kernel_rfl) i o h)
    have e39 := hout 39 (fun i o _ h => outB_spec (by kernel_rfl) i o h)
    have e40 := hout 40 (fun i o _ h => outB_spec (by kernel_rfl) i o h)
    have e47 := hout 47 (fun i o _ h => outB_spec (by kernel_rfl) i o h)
    have e48 := hout 48 (fun i o _ h => outB_spec (by kernel_rfl) i o h)
    have e49 := hout 49 (fun i o _ h => outB_spec (by kernel_rfl) i o h)
    have e50 := hout 50 (fun i o _ h => outB_spec (by kernel_rfl) i o h)
    have e51 := hout 51 (fun i o _ h => outB_spec (by kernel_rfl) i o h)
    have e52 := hout 52 (fun i o _ h => outB_spec (by kernel_rfl) i o h)
    have e53 := hout 53 (fun i o _ h => outB_spec (by kernel_rfl) i o h)
    have e54 := hout 54 (fun i o _ h => outB_spec (by kernel_rfl) i o h)
    have e55 := hout 55 (fun i o _ h => outB_spec (by kernel_rfl) i o h)
    have e56 := hout 56 (fun i o _ h => outB_spec (by kernel_rfl) i o h)
    have e57 := hout 57 (fun i o _ h => outB_spec (by kernel_rfl) i o h)
    have e58 := hout 58 (fun i o _ h => outB_spec (by kernel_rfl) i o h)
    have e59 := hout 59 (fun i o _ h => outB_spec (by kernel_rfl) i o h)
    have e60 := hout 60 (fun i o _ h => outB_spec (by kernel_rfl) i o h)
    have e61 := hout 61 (fun i o _ h => outB_spec (by kernel_rfl) i o h)
    have e62 := hout 62 (fun i o _ h => outB_spec (by kernel_rfl) i o h)
    have e63 := hout 63 (fun i o _ h => outB_spec (by kernel_rfl) i o h)
    have e64 := hout 64 (fun i o _ h => outB_spec (by kernel_rfl) i o h)
    have e65 := hout 65 (fun i o _ h => outB_spec (by kernel_rfl) i o h)
    have e66 := hout 66 (fun i o _ h => outB_spec (by kernel_rfl) i o h)
    have e67 := hout 67 (fun i o _ h => outB_spec (by kernel_rfl) i o h)
    have e68 := hout 68 (fun i o _ h => outB_spec (by kernel_rfl) i o h)
    have e69 := hout 69 (fun i o _ h => outB_spec (by kernel_rfl) i o h)
    have e70 := hout 70 (fun i o _ h => outB_spec (by kernel_rfl) i o h)
    have e71 := hout 71 (fun i o _ h => outB_spec (by kernel_rfl) i o h)
    have e72 := hout 72 (fun i o _ h => outB_spec (by kernel_rfl) i o h)
    have e73 := hout 73 (fun i o _ h => outB_spec (by kernel_rfl) i o h)
    have e74 := hout 74 (fun i o _ h => outB_spec (by kernel_rfl) i o h)
    have e75 := hout 75 (fun i o _ h => outB_spec (by kernel_rfl) i o h)
    have e76 := hout 76 (fun i o _ h => outB_spec (by kernel_rfl) i o h)
    have e77 := hout 77 (fun i o _ h => outB_spec (by kernel_rfl) i o h)
    have e78 := hout 78 (fun i o _ h => outB_spec (by kernel_rfl) i o h)
    have e79 := hout 79 (fun i o _ h => outB_spec (by kernel_rfl) i o h)
    have e80 := hout 80 (fun i o _ h => outB_spec (by kernel_rfl) i o h)
    have e81 := hout 81 (fun i o _ h => outB_spec (by kernel_rfl) i o h)
    have e82 := hout 82 (fun i o _ h => outB_spec (by kernel_rfl) i o h)
    have e83 := hout 83 (fun i o _ h => outB_spec (by kernel_rfl) i o h)
    have e84 := hout 84 (fun i o _ h => outB_spec (by kernel_rfl) i o h)
    have e85 := hout 85 (fun i o _ h => outB_spec (by kernel_rfl) i o h)
    have e86 := hout 86 (fun i o _ h => outB_spec (by kernel_rfl) i o h)
    have e87 := hout 87 (fun i o _ h => outB_spec (by kernel_rfl) i o h)
    have e88 := hout 88 (fun i o _ h => outB_spec (by kernel_rfl) i o h)
    have e89 := hout 89 (fun i o _ h => outB_spec (by kernel_rfl) i o h)
    have e90 := hout 90 (fun i o _ h => outB_spec (by kernel_rfl) i o h)
    have e91 := hout 91 (fun i o _ h => outB_spec (by kernel_rfl) i o h)
    have e92 := hout 92 (fun i o _ h => outB_spec (by kernel_rfl) i o h)
    have e93 := hout 93 (fun i o _ h => outB_spec (by kernel_rfl) i o h)
    have e94 := hout 94 (fun i o _ h => outB_spec (by kernel_rfl) i o h)
    have e95 := hout 95 (fun i o _ h => outB_spec (by kernel_rfl) i o h)
    have e96 := hout 96 (fun i o _ h => outB_spec (by kernel_rfl) i o h)
    have e97 := hout 97 (fun i o _ h => outB_spec (by kernel_rfl) i o h)
    have e98 := hout 98 (fun i o _ h => outB_spec (by kernel_rfl) i o h)
    have e99 := hout 99 (fun i o _ h => outB_spec (by kernel_rfl) i o h)
    have e100 := hout 100 (fun i o _ h => outB_spec (by kernel_rfl) i o h)
    have e101 := hout 101 (fun i o _ h => outB_spec (by kernel_rfl) i o h)
    have e102 := hout 102 (fun i o _ h => outB_spec (by kernel_rfl) i o h)
    have e103 := hout 103 (fun i o _ h => outB_spec (by kernel_rfl) i o h)
    have e104 := hout 104 (fun i o _ h => outB_spec (by kernel_rfl) i o h)
    have e105 := hout 105 (fun i o _ h => outB_spec (by kernel_rfl) i o h)
    have e106 := hout 106 (fun i o _ h => outB_spec (by kernel_rfl) i o h)
    have e107 := hout 107 (fun i o _ h => outB_spec (by kernel_rfl) i o h)
    have e108 := hout 108 (fun i o _ h => outB_spec (by kernel_rfl) i o h)
    simp only [Array.getD_eq_getD_getElem?, List.getElem?_toArray, List.getElem?_cons_zero, List.getElem?_cons_succ, Option.getD_some] at e0 e1 e2 e3 e4 e5 e6 e7 e8 e10 e11 e12 e13 e14 e15 e16 e17 e18 e19 e20 e21 e22 e23 e24 e25 e26 e27 e28 e29 e30 e31 e32 e33 e34 e35 e36 e37 e38 e39 e40 e47 e48 e49 e50 e51 e52 e53 e54 e55 e56 e57 e58 e59 e60 e61 e62 e63 e64 e65 e66 e67 e68 e69 e70 e71 e72 e73 e74 e75 e76 e77 e78 e79 e80 e81 e82 e83 e84 e85 e86 e87 e88 e89 e90 e91 e92 e93 e94 e95 e96 e97 e98 e99 e100 e101 e102 e103 e104 e105 e106 e107 e108
    rw [e0, e1, e2, e3, e4, e5, e6, e7, e8, e10, e11, e12, e13, e14, e15, e16, e17, e18, e19, e20, e21, e22, e23, e24, e25, e26, e27, e28, e29, e30, e31, e32, e33, e34, e35, e36, e37, e38, e39, e40, e47, e48, e49, e50, e51, e52, e53, e54, e55, e56, e57, e58, e59, e60, e61, e62, e63, e64, e65, e66, e67, e68, e69, e70, e71, e72, e73, e74, e75, e76, e77, e78, e79, e80, e81, e82, e83, e84, e85, e86, e87, e88, e89, e90, e91, e92, e93, e94, e95, e96, e97, e98, e99, e100, e101, e102, e103, e104, e105, e106, e107, e108] at hA
    clear e0 e1 e2 e3 e4 e5 e6 e7 e8 e10 e11 e12 e13 e14 e15 e16 e17 e18 e19 e20 e21 e22 e23 e24 e25 e26 e27 e28 e29 e30 e31 e32 e33 e34 e35 e36 e37 e38 e39 e40 e47 e48 e49 e50 e51 e52 e53 e54 e55 e56 e57 e58 e59 e60 e61 e62 e63 e64 e65 e66 e67 e68 e69 e70 e71 e72 e73 e74 e75 e76 e77 e78 e79 e80 e81 e82 e83 e84 e85 e86 e87 e88 e89 e90 e91 e92 e93 e94 e95 e96 e97 e98 e99 e100 e101 e102 e103 e104 e105 e106 e107 e108 hout
    have hds2 : a.defers = [] := hdef
    have ea : a = ⟨a.tmps, a.defers⟩ := rfl
    rw [Array.getD_eq_getD_getElem?] at q9
    rw [Array.getD_eq_getD_getElem?] at q46
    rw [hA, hds2, q9, q46] at ea
    clear hA hds2 q9 q46 hdef
    generalize a.tmps[41]?.getD undef = y41 at ea
    generalize a.tmps[42]?.getD undef = y42 at ea
    generalize a.tmps[43]?.getD undef = y43 at ea
    generalize a.tmps[44]?.getD undef = y44 at ea
    generalize a.tmps[45]?.getD undef = y45 at ea
    clear hsz
    subst ea
    have bx : Ex w3 w2 := Ex.trans (show Ex w3 (World.drew w3) from (Below.refl _ _).drew) hx
    unfold wpOp
    simp only [List.getElem?_toArray, List.getElem?_cons_zero, List.getElem?_cons_succ]
    rw [if_pos (by rfl)]
    left
    refine st_v _ _ g9 z46 rfl rfl rfl n46.ok b9.2 (by rfl) (fun w5 hd ho => ?_)
    have x5 : Ex w3 w5 := ho.below w3.heap.size l9 w3 bx
    have HGZ := Lib.hid (show some g9 ≠ rv.ownBlock from fun e => by have := P.out.tb.row.own_lt e.symm; omega)
    have HZ := Lib.hid (show TVN w5 z46 from ⟨n46.ok, n46.sec.onlyT ho b9.2 (by decide), n46.len⟩)
    have HZI := Lib.hid (And.intro d46 r46)
    have G9 := Lib.hid hd
    replace P := Lib.hid (P.out.ext x5)
    replace G8 := Lib.hid (G8.out.ext x5)
    clear x5 hd ho n46 d46 r46 b9 l9 bx XR HAV XI
    generalize z46 = z at *
    generalize g9 = gz at *
    go_wp2_with (first | (with_reducible refine stop_load (t := 30) ?_) | (with_reducible refine stop_store (t := 30) ?_) | (with_reducible refine stop_load (t := 24) ?_) | (with_reducible refine stop_store (t := 24) ?_) | (with_reducible refine stop_mu ?_) | (with_reducible refine stop_lk ?_))
    (with_reducible refine ⟨?_⟩); (with_reducible refine at_any ?_ ?_); (focus go_simp); refine fun K0 hK => ld_v _ gz z rfl rfl G9.out (hK _ _ ?_)
    clear hK
    go_wp2_with (first | (with_reducible refine stop_load (t := 30) ?_) | (with_reducible refine stop_store (t := 30) ?_) | (with_reducible refine stop_load (t := 24) ?_) | (with_reducible refine stop_store (t := 24) ?_) | (with_reducible refine stop_mu ?_) | (with_reducible refine stop_lk ?_))
    refine (tput_any D rv vs z w5 P.out.tb HZ.out.vi).mono ?_
    rintro e w6 hpp
    obtain ⟨rfl, rv2, vs2, ht, htc, hst⟩ := P.out.step HZ.out.ok HZI.out.2 HC9.out (by rw [HZI.out.1]; exact idn_u u HC9.out) hpp
    skip
    have G8b : Hid (Bk w6 g8 24 (Lib.byteCells [u, 0, 0, 0]).toArray) := Lib.hid (htc.bk G8.out (fun e => by subst e; have h1 := P.out.tb.blk; have h2 := G8.out; unfold Bk at h1 h2; rw [h1] at h2; exact absurd (Obj.cells.inj (Option.some.inj h2)).2.1 (by decide)) (fun e => by rcases P.out.tb.row.blk with h | ⟨g9, h, _, _, cs, h1⟩ <;> rw [h] at e <;> cases e; have h2 := G8.out; unfold Bk at h1 h2; rw [h1] at h2; exact absurd (Obj.cells.inj (Option.some.inj h2)).2.1 (by decide)))
    have G9b : Hid (VB w6 gz z) := Lib.hid ⟨G9.out.1, htc.bk G9.out.2 (fun e => by subst e; have h1 := P.out.tb.blk; have h2 := G9.out.2; unfold Bk at h1 h2; rw [h1] at h2; exact absurd (Obj.cells.inj (Option.some.inj h2)).2.1 (by decide)) (HGZ.out)⟩
    have MB6 := Lib.hid (P.out.mb.tc P.out.tb htc)
    have HZ6 := Lib.hid (HZ.out.tcb P.out.tb htc)
    have HT := Lib.hid ht
    have HTC := Lib.hid htc
    have HST := Lib.hid hst
    clear hpp ht htc hst G8 G9
    go_wp2_with (first | (with_reducible refine stop_load (t := 30) ?_) | (with_reducible refine stop_store (t := 30) ?_) | (with_reducible refine stop_load (t := 24) ?_) | (with_reducible refine stop_store (t := 24) ?_) | (with_reducible refine stop_mu ?_) | (with_reducible refine stop_lk ?_))
    (with_reducible refine ⟨?_⟩); (with_reducible refine at_any ?_ ?_); (focus go_simp); refine fun K0 hK => ld_idb _ g8 [u, 0, 0, 0] rfl rfl rfl G8b.out (hK _ _ ?_)
    clear hK
    go_wp2_with (first | (with_reducible refine stop_load (t := 30) ?_) | (with_reducible refine stop_store (t := 30) ?_) | (with_reducible refine stop_load (t := 24) ?_) | (with_reducible refine stop_store (t := 24) ?_) | (with_reducible refine stop_mu ?_) | (with_reducible refine stop_lk ?_))
    (with_reducible refine ⟨?_⟩); (with_reducible refine at_any ?_ ?_); (focus go_simp); refine fun K0 hK => ld_v _ gz z rfl rfl G9b.out (hK _ _ ?_)
    clear hK
    go_wp2_with (first | (with_reducible refine stop_load (t := 30) ?_) | (with_reducible refine stop_store (t := 30) ?_) | (with_reducible refine stop_load (t := 24) ?_) | (with_reducible refine stop_store (t := 24) ?_) | (with_reducible refine stop_mu ?_) | (with_reducible refine stop_lk ?_))
    (with_reducible refine ⟨?_⟩); (with_reducible refine at_any ?_ ?_); (focus go_simp); refine fun K0 hK => wp_mu _ _ _ rfl b ps MB6.out [u, 0, 0, 0] z rfl rfl rfl rfl (fun w7 ps2 r1 r2 r3 r4 => hK _ _ ?_)
    clear hK
    have P2 : Hid (OS w w7 D rv2 vs2 b ps2) := Lib.hid (P.out.upd HZ6.out HC9.out (by rw [HZI.out.1]; exact idn_u u HC9.out) HT.out HTC.out HST.out r1 r2 (by rw [HZI.out.1]; exact r3) (by rw [HZI.out.1]; exact r4))
    clear r1 r2 r3 r4 P HT HTC HST MB6 HZ6 HZ G8b G9b
    go_wp2_with (first | (with_reducible refine stop_load (t := 30) ?_) | (with_reducible refine stop_store (t := 30) ?_) | (with_reducible refine stop_load (t := 24) ?_) | (with_reducible refine stop_store (t := 24) ?_) | (with_reducible refine stop_mu ?_) | (with_reducible refine stop_lk ?_))
    (first | (refine ⟨?_, ?measure⟩; (repeat apply Exists.intro); refine ⟨?rel, rfl⟩) | refine ⟨?rel, ?measure⟩)
    case rel => exact ⟨k + 1, rv2, vs2, ps2, by omega, by go_num, P2⟩
    case measure => simp [intOf]; omega
  ·obtain rfl : m = k := by omega
   have q1 : (m : Int) < (n1 : Int) := by omega
   have q2 : ¬ (m : Int) < (n2 : Int) := by omega
   clear hm hv
   go_wp2_with (first | (with_reducible refine stop_load (t := 30) ?_) | (with_reducible refine stop_store (t := 30) ?_) | (with_reducible refine stop_load (t := 24) ?_) | (with_reducible refine stop_store (t := 24) ?_) | (with_reducible refine stop_mu ?_) | (with_reducible refine stop_lk ?_))
   refine (tall_any D rv vs wr P.out.tb).mono ?_
   rintro e wt ⟨vt, ts, rfl, hvr, hct, x5⟩
   obtain ⟨adt, capt, rfl, hit, hct9⟩ := hvr.inn2
   replace P := Lib.hid (P.out.ext x5)
   have HTS := Lib.hid hvr
   have HC := Lib.hid hct
   clear hvr hct x5 hit hct9
   obtain ⟨nt, hnt⟩ : ∃ n, n = ts.length := ⟨_, rfl⟩
   rw [← hnt] at HTS ⊢
   have HNT := Lib.hid hnt
   have hnt4 : nt ≤ 4 := by rw [hnt]; have := congrArg List.length HC.out; simp at this; rw [this]; exact P.out.tb.len
   have hlen : nt = ps.length := by rw [hnt, ← P.out.len]; have := congrArg List.length HC.out; simpa using this
   obtain ⟨es, clk, hesb, hess⟩ := P.out.mb.size
   have hes : (es.size : Int) = (nt : Int) := by omega
   clear hnt hlen hess
   go_wp2_with (first | (with_reducible refine stop_load (t := 30) ?_) | (with_reducible refine stop_store (t := 30) ?_) | (with_reducible refine stop_load (t := 24) ?_) | (with_reducible refine stop_store (t := 24) ?_) | (with_reducible refine stop_mu ?_) | (with_reducible refine stop_lk ?_))
   have hlm := run_len_map (P := Try.prog) (w := wt) 56 3 b es clk (by kernel_rfl) hesb
   rw [hlm]
   simp only [Result.andThen]
   rw [Oper.upon_value]
   rw [show (goInt es.size) = .int .i64 (nt : Int) from congrArg (Value.int .i64) hes]
   clear hlm hesb hes
   go_wp2_with (first | (with_reducible refine stop_load (t := 30) ?_) | (with_reducible refine stop_store (t := 30) ?_) | (with_reducible refine stop_load (t := 24) ?_) | (with_reducible refine stop_store (t := 24) ?_) | (with_reducible refine stop_mu ?_) | (with_reducible refine stop_lk ?_))
   obtain ⟨wa, hwa⟩ : ∃ u : World, u = wt := ⟨_, rfl⟩
   rw [← hwa] at P HTS ⊢
   clear hwa
   go_loopw [11] (fun i wr => ∃ k : Nat, k ≤ nt ∧ i = .int .i64 k ∧ Hid (Ex wa wr)) (fun i _ => nt - (intOf i).toNat)
   case atStart => exact ⟨0, by omega, rfl, Lib.hid (Ex.refl _)⟩
   case round =>
    obtain ⟨k, hk, rfl, BX⟩ := hrel
    by_cases hlt : k < nt
    ·have q0 : (0 : Int) ≤ (k : Int) := by omega
     have q1 : (k : Int) < (nt : Int) := by omega
     obtain ⟨y, hy⟩ : ∃ y, ts[k]? = some y := ⟨_, List.getElem?_eq_getElem (by rw [← HNT.out]; exact hlt)⟩
     have hcv : ∃ v0, vs[k]? = some v0 ∧ v0.ct = y.ct := by
      have e1 : (ts.map Vt.ct)[k]? = (vs.map Vt.ct)[k]? := by rw [HC.out]
      rw [List.getElem?_map, List.getElem?_map, hy] at e1
      cases hv0 : vs[k]? with
      | none => rw [hv0] at e1; simp at e1
      | some v0 => rw [hv0] at e1; exact ⟨v0, rfl, by simpa using e1.symm⟩
     obtain ⟨v0, hv0, hvy⟩ := hcv
     obtain ⟨v, hvm, hvc⟩ := P.out.aa v0 (List.mem_of_getElem? hv0)
     rw [ct_id hvy] at hvm
     have HVM := Lib.hid hvm
     have HVY : Hid (v.ct = y.ct) := Lib.hid (hvc.trans hvy)
     have VN := Lib.hid ((P.out.mel _ hvm).ext BX.out)
     have YN := Lib.hid ((HTS.out.ins k y hy).ext BX.out)
     obtain ⟨a9, o9, e9, hlt9, hr9⟩ := (HTS.out.ext BX.out).rd.1.read (by rw [← HNT.out]; omega)
     subst e9
     have YR := Lib.hid (hr9 k y hy)
     have HRA := Lib.hid hr9
     have HAB := Lib.hid hlt9
     have HYK := Lib.hid hy
     have MB9 := Lib.hid (P.out.mb.ext (BX.out.block b P.out.mb.lt))
     clear hy hv0 hvy hvm hvc hr9 hlt9
     go_wp2_with (first | (with_reducible refine stop_load (t := 30) ?_) | (with_reducible refine stop_store (t := 30) ?_) | (with_reducible refine stop_load (t := 24) ?_) | (with_reducible refine stop_store (t := 24) ?_) | (with_reducible refine stop_mu ?_) | (with_reducible refine stop_lk ?_))
     (with_reducible refine ⟨?_⟩); (with_reducible refine at_any ?_ ?_); (focus go_simp); refine fun K0 hK => ld_vidr _ a9 (o9 + k * 42) y YN.out.ok rfl rfl YR.out (hK _ _ ?_)
     clear hK
     go_wp2_with (first | (with_reducible refine stop_load (t := 30) ?_) | (with_reducible refine stop_store (t := 30) ?_) | (with_reducible refine stop_load (t := 24) ?_) | (with_reducible refine stop_store (t := 24) ?_) | (with_reducible refine stop_mu ?_) | (with_reducible refine stop_lk ?_))
     (with_reducible refine ⟨?_⟩); (with_reducible refine at_any ?_ ?_); (focus go_simp); refine fun K0 hK => wp_lk _ _ rfl b ps MB9.out y.id v YN.out.ok.idN HVM.out rfl rfl (hK _ _ ?_)
     clear hK
     go_wp2_with (first | (with_reducible refine stop_load (t := 30) ?_) | (with_reducible refine stop_store (t := 30) ?_) | (with_reducible refine stop_load (t := 24) ?_) | (with_reducible refine stop_store (t := 24) ?_) | (with_reducible refine stop_mu ?_) | (with_reducible refine stop_lk ?_))
     (with_reducible refine ⟨?_⟩); (with_reducible refine at_any ?_ ?_); (focus go_simp); refine fun K0 hK => st_v _ _ wr.heap.size v rfl rfl rfl VN.out.ok (Bk.new rfl _ _) (by rfl) (fun w3 hd ho => hK _ _ ?_)
     clear hK
     have xx : Ex wr w3 := ho.below wr.heap.size (Nat.le_refl _) wr (Ex.alloc wr _)
     have YR3 := Lib.hid (range_ex YR.out xx HAB.out)
     have HAB3 := Lib.hid (Nat.lt_of_lt_of_le HAB.out xx.sz')
     replace VN := Lib.hid (VN.out.ext xx)
     replace YN := Lib.hid (YN.out.ext xx)
     replace BX := Lib.hid (Ex.trans BX.out xx)
     obtain ⟨g12, hg⟩ : ∃ g, g = wr.heap.size := ⟨_, rfl⟩
     rw [← hg] at hd ⊢
     have G12 := Lib.hid hd
     have XW := Lib.hid xx
     clear xx hd ho hg YR MB9
     rcases k with _ | k1
     ·have k0p : (0 : Int) < (nt : Int) := by omega
      skip
      go_wp2_with fail
      obtain ⟨T, hT⟩ : ∃ T : List (Rw w3.heap.size), T = [.is (.bool true), .is (.bool false), .is (.bool false), .is (v.V), .is (.slice (some ⟨a9, o9, none⟩) nt capt), .is (.int .i64 (0 : Nat)), .is (.pointer (some ⟨a9, o9 + 0 * 42, none⟩)), .is (y.V), .is (.bool true), .is (.bool false), .is (.bool false), .is (.bool false), .is (.int .i64 (0 : Nat)), .is (.bool false), .is (.bool false), .is (undef), .is (undef), .is (undef), .is (undef), .is (undef), .is (undef), .is (undef), .is (undef), .is (undef), .is (undef), .is (undef), .is (undef), .is (undef), .is (undef), .is (.bool false), .is (.bool false)] := ⟨_, rfl⟩
      have HTY : T.map Rw.tys = ([[], [], [], [], [], [], [], [], [], [], [], [], [], [], [], [], [], [], [], [], [], [], [], [], [], [], [], [], [], [], []] : List (List Nat)) := by rw [hT]; rfl
      refine wp_region_gen (JW w3.heap.size w3 [0] T ([[], [], [], [], [], [], [], [], [], [], [], [], [], [], [], [], [], [], [], [], [], [], [], [], [], [], [], [], [], [], []] : List (List Nat)) ([none, none, none, none, none, none, none, none, none, none, none, none, none, none, none, none, none, none, none, none, none, none, none, none, none, none, none, none, none, none, none] : List (Option Nat)) ([] : List (Nat × Nat)) 100000) (by kernel_rfl) (by kernel_rfl) (by kernel_rfl) (fitB_spec (by kernel_rfl)) (fun listed f h => JW.start (Nat.le_refl _) listed f h) ?_ ?_
      ·intro i o ho
       have hi : i < 31 := (Array.getElem?_eq_some_iff.1 ho).1
       have hi' : i = 0 ∨ i = 1 ∨ i = 2 ∨ i = 3 ∨ i = 4 ∨ i = 5 ∨ i = 6 ∨ i = 7 ∨ i = 8 ∨ i = 9 ∨ i = 10 ∨ i = 11 ∨ i = 12 ∨ i = 13 ∨ i = 14 ∨ i = 15 ∨ i = 16 ∨ i = 17 ∨ i = 18 ∨ i = 19 ∨ i = 20 ∨ i = 21 ∨ i = 22 ∨ i = 23 ∨ i = 24 ∨ i = 25 ∨ i = 26 ∨ i = 27 ∨ i = 28 ∨ i = 29 ∨ i = 30 := by omega
       clear hi
       rcases hi' with rfl | rfl | rfl | rfl | rfl | rfl | rfl | rfl | rfl | rfl | rfl | rfl | rfl | rfl | rfl | rfl | rfl | rfl | rfl | rfl | rfl | rfl | rfl | rfl | rfl | rfl | rfl | rfl | rfl | rfl | rfl
       all_goals (simp only [List.getElem?_toArray, List.getElem?_cons_zero, List.getElem?_cons_succ, Option.some.injEq] at ho; subst ho; intro listed f a w4 hJ hsz hls hun hdep hout hlat)
       ·rw [if_pos (by rfl)]
        intro K hK
        have q13 := hout 13 (outB_spec (by kernel_rfl))
        have hord := no_ord 0 listed
        refine wp_mv _ rfl (hK _ _ ?_)
        rw [show a.eval (.tmp 13) = .bool true from q13]
        exact hJ.plain HTY (by rw [hls]; decide) (Ex.refl _) (by rw [hT]; rfl) hord
       ·rw [if_pos (by rfl)]
        intro K hK
        have dd77 := hdep ⟨0, .data⟩ (by simp) rfl
        have q77 := dd77.2 _ rfl _ rfl
        have h77 := hJ.vals 0 dd77.1 no_c
        rw [hT] at h77
        rw [show f 0 = .bool true from h77] at q77
        clear h77
        clear dd77
        have hord := no_ord 1 listed
        rw [Array.getD_eq_getD_getElem?] at q77
        clear hsz hdep hout hlat
        go_simp
        exact hK _ _ (hJ.plain HTY (by rw [hls]; decide) (Ex.refl _) (by rw [hT]; first | rfl | exact int_eq (by omega) | exact int_eq (by rw [IntKind.wrap_i64]; omega)) hord)
       ·rw [if_pos (by rfl)]
        intro K hK
        have dd78 := hdep ⟨1, .data⟩ (by simp) rfl
        have q78 := dd78.2 _ rfl _ rfl
        have h78 := hJ.vals 1 dd78.1 no_c
        rw [hT] at h78
        rw [show f 1 = .bool false from h78] at q78
        clear h78
        clear dd78
        have hord := no_ord 2 listed
        refine wp_mv _ rfl (hK _ _ ?_)
        rw [show a.eval (.tmp 78) = .bool false from q78]
        exact hJ.plain HTY (by rw [hls]; decide) (Ex.refl _) (by rw [hT]; rfl) hord
       ·have ddg := hdep ⟨2, .guard⟩ (by simp) rfl
        have kg := ddg.2 _ rfl _ rfl
        have hg := hJ.vals 2 ddg.1 no_c
        rw [hT] at hg
        rw [show f 2 = .bool false from hg] at kg
        clear hg ddg
        rw [if_pos (wanted_of rfl rfl rfl kg)]
        clear kg
        intro K hK
        have q12 := hout 12 (outB_spec (by kernel_rfl))
        have hord := no_ord 3 listed
        exact ld_v (.tmp 12) g12 v rfl q12 (G12.out.ext hJ.ext.below) (hK _ _ (hJ.plain HTY (by rw [hls]; decide) (Ex.refl _) (by rw [hT]; rfl) hord))
       ·have ddg := hdep ⟨2, .guard⟩ (by simp) rfl
        have kg := ddg.2 _ rfl _ rfl
        have hg := hJ.vals 2 ddg.1 no_c
        rw [hT] at hg
        rw [show f 2 = .bool false from hg] at kg
        clear hg ddg
        rw [if_pos (wanted_of rfl rfl rfl kg)]
        clear kg
        intro K hK
        have q10 := hout 10 (outB_spec (by kernel_rfl))
        have hord := no_ord 4 listed
        refine wp_mv _ rfl (hK _ _ ?_)
        rw [show a.eval (.tmp 10) = .slice (some ⟨a9, o9, none⟩) nt capt from q10]
        exact hJ.plain HTY (by rw [hls]; decide) (Ex.refl _) (by rw [hT]; rfl) hord
       ·have ddg := hdep ⟨2, .guard⟩ (by simp) rfl
        have kg := ddg.2 _ rfl _ rfl
        have hg := hJ.vals 2 ddg.1 no_c
        rw [hT] at hg
        rw [show f 2 = .bool false from hg] at kg
        clear hg ddg
        rw [if_pos (wanted_of rfl rfl rfl kg)]
        clear kg
        intro K hK
        have q11 := hout 11 (outB_spec (by kernel_rfl))
        have hord := no_ord 5 listed
        refine wp_mv _ rfl (hK _ _ ?_)
        rw [show a.eval (.tmp 11) = .int .i64 (0 : Nat) from q11]
        exact hJ.plain HTY (by rw [hls]; decide) (Ex.refl _) (by rw [hT]; rfl) hord
       ·have ddg := hdep ⟨2, .guard⟩ (by simp) rfl
        have kg := ddg.2 _ rfl _ rfl
        have hg := hJ.vals 2 ddg.1 no_c
        rw [hT] at hg
        rw [show f 2 = .bool false from hg] at kg
        clear hg ddg
        rw [if_pos (wanted_of rfl rfl rfl kg)]
        clear kg
        intro K hK
        have dd81 := hdep ⟨4, .data⟩ (by simp) rfl
        have q81 := dd81.2 _ rfl _ rfl
        have h81 := hJ.vals 4 dd81.1 no_c
        rw [hT] at h81
        rw [show f 4 = .slice (some ⟨a9, o9, none⟩) nt capt from h81] at q81
        clear h81
        clear dd81
        have dd82 := hdep ⟨5, .data⟩ (by simp) rfl
        have q82 := dd82.2 _ rfl _ rfl
        have h82 := hJ.vals 5 dd82.1 no_c
        rw [hT] at h82
        rw [show f 5 = .int .i64 (0 : Nat) from h82] at q82
        clear h82
        clear dd82
        have hord := no_ord 6 listed
        rw [Array.getD_eq_getD_getElem?] at q81
        rw [Array.getD_eq_getD_getElem?] at q82
        clear hsz hdep hout hlat
        go_simp
        exact hK _ _ (hJ.plain HTY (by rw [hls]; decide) (Ex.refl _) (by rw [hT]; first | rfl | exact int_eq (by omega) | exact int_eq (by rw [IntKind.wrap_i64]; omega)) hord)
       ·have ddg := hdep ⟨2, .guard⟩ (by simp) rfl
        have kg := ddg.2 _ rfl _ rfl
        have hg := hJ.vals 2 ddg.1 no_c
        rw [hT] at hg
        rw [show f 2 = .bool false from hg] at kg
        clear hg ddg
        rw [if_pos (wanted_of rfl rfl rfl kg)]
        clear kg
        intro K hK
        have dd83 := hdep ⟨6, .data⟩ (by simp) rfl
        have q83 := dd83.2 _ rfl _ rfl
        have h83 := hJ.vals 6 dd83.1 no_c
        rw [hT] at h83
        rw [show f 6 = .pointer (some ⟨a9, o9 + 0 * 42, none⟩) from h83] at q83
        clear h83
        clear dd83
        have hord := no_ord 7 listed
        exact ld_vr (.tmp 83) a9 (o9 + 0 * 42) y YN.out.ok rfl q83 (range_ex YR3.out hJ.ext.below HAB3.out) (hK _ _ (hJ.plain HTY (by rw [hls]; decide) (Ex.refl _) (by rw [hT]; rfl) hord))
       ·have ddg := hdep ⟨2, .guard⟩ (by simp) rfl
        have kg := ddg.2 _ rfl _ rfl
        have hg := hJ.vals 2 ddg.1 no_c
        rw [hT] at hg
        rw [show f 2 = .bool false from hg] at kg
        clear hg ddg
        rw [if_pos (wanted_of rfl rfl rfl kg)]
        clear kg
        intro K hK
        have dd80 := hdep ⟨3, .data⟩ (by simp) rfl
        have q80 := dd80.2 _ rfl _ rfl
        have h80 := hJ.vals 3 dd80.1 no_c
        rw [hT] at h80
        rw [show f 3 = v.V from h80] at q80
        clear h80
        clear dd80
        have dd84 := hdep ⟨7, .data⟩ (by simp) rfl
        have q84 := dd84.2 _ rfl _ rfl
        have h84 := hJ.vals 7 dd84.1 no_c
        rw [hT] at h84
        rw [show f 7 = y.V from h84] at q84
        clear h84
        clear dd84
        have hord := no_ord 8 listed
        rw [Array.getD_eq_getD_getElem?] at q80
        rw [Array.getD_eq_getD_getElem?] at q84
        clear hsz hdep hout hlat
        go_simp
        refine (rsame_any v y w4 (VN.out.vi.ext hJ.ext.below) (YN.out.vi.ext hJ.ext.below)).mono ?_
        rintro e w5 ⟨rfl, x3⟩
        rw [decide_eq_true HVY.out]
        exact hK _ _ (hJ.plain HTY (by rw [hls]; decide) x3 (by rw [hT]; rfl) hord)
       ·have ddg := hdep ⟨2, .guard⟩ (by simp) rfl
        have kg := ddg.2 _ rfl _ rfl
        have hg := hJ.vals 2 ddg.1 no_c
        rw [hT] at hg
        rw [show f 2 = .bool false from hg] at kg
        clear hg ddg
        rw [if_pos (wanted_of rfl rfl rfl kg)]
        clear kg
        intro K hK
        have dd85 := hdep ⟨8, .data⟩ (by simp) rfl
        have q85 := dd85.2 _ rfl _ rfl
        have h85 := hJ.vals 8 dd85.1 no_c
        rw [hT] at h85
        rw [show f 8 = .bool true from h85] at q85
        clear h85
        clear dd85
        have hord := no_ord 9 listed
        rw [Array.getD_eq_getD_getElem?] at q85
        clear hsz hdep hout hlat
        go_simp
        exact hK _ _ (hJ.plain HTY (by rw [hls]; decide) (Ex.refl _) (by rw [hT]; first | rfl | exact int_eq (by omega) | exact int_eq (by rw [IntKind.wrap_i64]; omega)) hord)
       ·rw [if_pos (by rfl)]
        intro K hK
        have dd79 := hdep ⟨2, .data⟩ (by simp) rfl
        have q79 := dd79.2 _ rfl _ rfl
        have h79 := hJ.vals 2 dd79.1 no_c
        rw [hT] at h79
        rw [show f 2 = .bool false from h79] at q79
        clear h79
        clear dd79
        have dd86 := hdep ⟨9, .data⟩ (by simp) rfl
        have q86 := dd86.2 _ rfl _ rfl
        have h86 := hJ.vals 9 dd86.1 no_c
        rw [hT] at h86
        rw [show f 9 = .bool false from h86] at q86
        clear h86
        clear dd86
        have hord := no_ord 10 listed
        rw [Array.getD_eq_getD_getElem?] at q79
        rw [Array.getD_eq_getD_getElem?] at q86
        clear hsz hdep hout hlat
        go_simp
        exact hK _ _ (hJ.plain HTY (by rw [hls]; decide) (Ex.refl _) (by rw [hT]; first | rfl | exact int_eq (by omega) | exact int_eq (by rw [IntKind.wrap_i64]; omega)) hord)
       ·rw [if_pos (by rfl)]
        intro K hK
        have dd87 := hdep ⟨10, .data⟩ (by simp) rfl
        have q87 := dd87.2 _ rfl _ rfl
        have h87 := hJ.vals 10 dd87.1 no_c
        rw [hT] at h87
        rw [show f 10 = .bool false from h87] at q87
        clear h87
        clear dd87
        have hord := no_ord 11 listed
        refine wp_mv _ rfl (hK _ _ ?_)
        rw [show a.eval (.tmp 87) = .bool false from q87]
        exact hJ.plain HTY (by rw [hls]; decide) (Ex.refl _) (by rw [hT]; rfl) hord
       ·have ddg := hdep ⟨11, .guard⟩ (by simp) rfl
        have kg := ddg.2 _ rfl _ rfl
        have hg := hJ.vals 11 ddg.1 no_c
        rw [hT] at hg
        rw [show f 11 = .bool false from hg] at kg
        clear hg ddg
        rw [if_pos (wanted_of rfl rfl rfl kg)]
        clear kg
        intro K hK
        have q11 := hout 11 (outB_spec (by kernel_rfl))
        have hord := no_ord 12 listed
        refine wp_mv _ rfl (hK _ _ ?_)
        rw [show a.eval (.tmp 11) = .int .i64 (0 : Nat) from q11]
        exact hJ.plain HTY (by rw [hls]; decide) (Ex.refl _) (by rw [hT]; rfl) hord
       ·have ddg := hdep ⟨11, .guard⟩ (by simp) rfl
        have kg := ddg.2 _ rfl _ rfl
        have hg := hJ.vals 11 ddg.1 no_c
        rw [hT] at hg
        rw [show f 11 = .bool false from hg] at kg
        clear hg ddg
        rw [if_pos (wanted_of rfl rfl rfl kg)]
        clear kg
        intro K hK
        have dd89 := hdep ⟨12, .data⟩ (by simp) rfl
        have q89 := dd89.2 _ rfl _ rfl
        have h89 := hJ.vals 12 dd89.1 no_c
        rw [hT] at h89
        rw [show f 12 = .int .i64 (0 : Nat) from h89] at q89
        clear h89
        clear dd89
        have hord := no_ord 13 listed
        rw [Array.getD_eq_getD_getElem?] at q89
        clear hsz hdep hout hlat
        go_simp
        exact hK _ _ (hJ.plain HTY (by rw [hls]; decide) (Ex.refl _) (by rw [hT]; first | rfl | exact int_eq (by omega) | exact int_eq (by rw [IntKind.wrap_i64]; omega)) hord)
       ·have ddg := hdep ⟨11, .guard⟩ (by simp) rfl
        have kg := ddg.2 _ rfl _ rfl
        have hg := hJ.vals 11 ddg.1 no_c
        rw [hT] at hg
        rw [show f 11 = .bool false from hg] at kg
        clear hg ddg
        rw [if_pos (wanted_of rfl rfl rfl kg)]
        clear kg
        intro K hK
        have dd90 := hdep ⟨13, .data⟩ (by simp) rfl
        have q90 := dd90.2 _ rfl _ rfl
        have h90 := hJ.vals 13 dd90.1 no_c
        rw [hT] at h90
        rw [show f 13 = .bool false from h90] at q90
        clear h90
        clear dd90
        have hord := no_ord 14 listed
        refine wp_mv _ rfl (hK _ _ ?_)
        rw [show a.eval (.tmp 90) = .bool false from q90]
        exact hJ.plain HTY (by rw [hls]; decide) (Ex.refl _) (by rw [hT]; rfl) hord
       ·have ddg := hdep ⟨14, .guard⟩ (by simp) rfl
        have kg := ddg.2 _ rfl _ rfl
        have hg := hJ.vals 14 ddg.1 no_c
        rw [hT] at hg
        rw [show f 14 = .bool false from hg] at kg
        clear hg ddg
        have hord := no_ord 15 listed
        rw [if_neg (not_wanted rfl rfl rfl kg (by decide))]
        exact hJ.plain HTY (by rw [hls]; decide) (Ex.refl _) (by rw [hT]; first | exact trivial | rfl) hord
       ·have ddg := hdep ⟨14, .guard⟩ (by simp) rfl
        have kg := ddg.2 _ rfl _ rfl
        have hg := hJ.vals 14 ddg.1 no_c
        rw [hT] at hg
        rw [show f 14 = .bool false from hg] at kg
        clear hg ddg
        have hord := no_ord 16 listed
        rw [if_neg (not_wanted rfl rfl rfl kg (by decide))]
        exact hJ.plain HTY (by rw [hls]; decide) (Ex.refl _) (by rw [hT]; first | exact trivial | rfl) hord
       ·have ddg := hdep ⟨14, .guard⟩ (by simp) rfl
        have kg := ddg.2 _ rfl _ rfl
        have hg := hJ.vals 14 ddg.1 no_c
        rw [hT] at hg
        rw [show f 14 = .bool false from hg] at kg
        clear hg ddg
        have hord := no_ord 17 listed
        rw [if_neg (not_wanted rfl rfl rfl kg (by decide))]
        exact hJ.plain HTY (by rw [hls]; decide) (Ex.refl _) (by rw [hT]; first | exact trivial | rfl) hord
       ·have ddg := hdep ⟨14, .guard⟩ (by simp) rfl
        have kg := ddg.2 _ rfl _ rfl
        have hg := hJ.vals 14 ddg.1 no_c
        rw [hT] at hg
        rw [show f 14 = .bool false from hg] at kg
        clear hg ddg
        have hord := no_ord 18 listed
        rw [if_neg (not_wanted rfl rfl rfl kg (by decide))]
        exact hJ.plain HTY (by rw [hls]; decide) (Ex.refl _) (by rw [hT]; first | exact trivial | rfl) hord
       ·have ddg := hdep ⟨14, .guard⟩ (by simp) rfl
        have kg := ddg.2 _ rfl _ rfl
        have hg := hJ.vals 14 ddg.1 no_c
        rw [hT] at hg
        rw [show f 14 = .bool false from hg] at kg
        clear hg ddg
        have hord := no_ord 19 listed
        rw [if_neg (not_wanted rfl rfl rfl kg (by decide))]
        exact hJ.plain HTY (by rw [hls]; decide) (Ex.refl _) (by rw [hT]; first | exact trivial | rfl) hord
       ·have ddg := hdep ⟨14, .guard⟩ (by simp) rfl
        have kg := ddg.2 _ rfl _ rfl
        have hg := hJ.vals 14 ddg.1 no_c
        rw [hT] at hg
        rw [show f 14 = .bool false from hg] at kg
        clear hg ddg
        have hord := no_ord 20 listed
        rw [if_neg (not_wanted rfl rfl rfl kg (by decide))]
        exact hJ.plain HTY (by rw [hls]; decide) (Ex.refl _) (by rw [hT]; first | exact trivial | rfl) hord
       ·have ddg := hdep ⟨14, .guard⟩ (by simp) rfl
        have kg := ddg.2 _ rfl _ rfl
        have hg := hJ.vals 14 ddg.1 no_c
        rw [hT] at hg
        rw [show f 14 = .bool false from hg] at kg
        clear hg ddg
        have hord := no_ord 21 listed
        rw [if_neg (not_wanted rfl rfl rfl kg (by decide))]
        exact hJ.plain HTY (by rw [hls]; decide) (Ex.refl _) (by rw [hT]; first | exact trivial | rfl) hord
       ·have ddg := hdep ⟨14, .guard⟩ (by simp) rfl
        have kg := ddg.2 _ rfl _ rfl
        have hg := hJ.vals 14 ddg.1 no_c
        rw [hT] at hg
        rw [show f 14 = .bool false from hg] at kg
        clear hg ddg
        have hord := no_ord 22 listed
        rw [if_neg (not_wanted rfl rfl rfl kg (by decide))]
        exact hJ.plain HTY (by rw [hls]; decide) (Ex.refl _) (by rw [hT]; first | exact trivial | rfl) hord
       ·have ddg := hdep ⟨14, .guard⟩ (by simp) rfl
        have kg := ddg.2 _ rfl _ rfl
        have hg := hJ.vals 14 ddg.1 no_c
        rw [hT] at hg
        rw [show f 14 = .bool false from hg] at kg
        clear hg ddg
        have hord := no_ord 23 listed
        rw [if_neg (not_wanted rfl rfl rfl kg (by decide))]
        exact hJ.plain HTY (by rw [hls]; decide) (Ex.refl _) (by rw [hT]; first | exact trivial | rfl) hord
       ·have ddg := hdep ⟨14, .guard⟩ (by simp) rfl
        have kg := ddg.2 _ rfl _ rfl
        have hg := hJ.vals 14 ddg.1 no_c
        rw [hT] at hg
        rw [show f 14 = .bool false from hg] at kg
        clear hg ddg
        have hord := no_ord 24 listed
        rw [if_neg (not_wanted rfl rfl rfl kg (by decide))]
        exact hJ.plain HTY (by rw [hls]; decide) (Ex.refl _) (by rw [hT]; first | exact trivial | rfl) hord
       ·have ddg := hdep ⟨14, .guard⟩ (by simp) rfl
        have kg := ddg.2 _ rfl _ rfl
        have hg := hJ.vals 14 ddg.1 no_c
        rw [hT] at hg
        rw [show f 14 = .bool false from hg] at kg
        clear hg ddg
        have hord := no_ord 25 listed
        rw [if_neg (not_wanted rfl rfl rfl kg (by decide))]
        exact hJ.plain HTY (by rw [hls]; decide) (Ex.refl _) (by rw [hT]; first | exact trivial | rfl) hord
       ·have ddg := hdep ⟨14, .guard⟩ (by simp) rfl
        have kg := ddg.2 _ rfl _ rfl
        have hg := hJ.vals 14 ddg.1 no_c
        rw [hT] at hg
        rw [show f 14 = .bool false from hg] at kg
        clear hg ddg
        have hord := no_ord 26 listed
        rw [if_neg (not_wanted rfl rfl rfl kg (by decide))]
        exact hJ.plain HTY (by rw [hls]; decide) (Ex.refl _) (by rw [hT]; first | exact trivial | rfl) hord
       ·have ddg := hdep ⟨14, .guard⟩ (by simp) rfl
        have kg := ddg.2 _ rfl _ rfl
        have hg := hJ.vals 14 ddg.1 no_c
        rw [hT] at hg
        rw [show f 14 = .bool false from hg] at kg
        clear hg ddg
        have hord := no_ord 27 listed
        rw [if_neg (not_wanted rfl rfl rfl kg (by decide))]
        exact hJ.plain HTY (by rw [hls]; decide) (Ex.refl _) (by rw [hT]; first | exact trivial | rfl) hord
       ·have ddg := hdep ⟨14, .guard⟩ (by simp) rfl
        have kg := ddg.2 _ rfl _ rfl
        have hg := hJ.vals 14 ddg.1 no_c
        rw [hT] at hg
        rw [show f 14 = .bool false from hg] at kg
        clear hg ddg
        have hord := no_ord 28 listed
        rw [if_neg (not_wanted rfl rfl rfl kg (by decide))]
        exact hJ.plain HTY (by rw [hls]; decide) (Ex.refl _) (by rw [hT]; first | exact trivial | rfl) hord
       ·have ddg := hdep ⟨11, .guard⟩ (by simp) rfl
        have kg := ddg.2 _ rfl _ rfl
        have hg := hJ.vals 11 ddg.1 no_c
        rw [hT] at hg
        rw [show f 11 = .bool false from hg] at kg
        clear hg ddg
        rw [if_pos (wanted_of rfl rfl rfl kg)]
        clear kg
        intro K hK
        have dd91 := hdep ⟨14, .data⟩ (by simp) rfl
        have q91 := dd91.2 _ rfl _ rfl
        have h91 := hJ.vals 14 dd91.1 no_c
        rw [hT] at h91
        rw [show f 14 = .bool false from h91] at q91
        clear h91
        clear dd91
        have dd105 := hdep ⟨28, .data⟩ (by simp) rfl
        have q105 := dd105.2 _ rfl _ rfl
        have h105 := hJ.vals 28 dd105.1 no_c
        rw [hT] at h105
        rw [show f 28 = undef from h105] at q105
        clear h105
        clear dd105
        have hord := no_ord 29 listed
        rw [Array.getD_eq_getD_getElem?] at q91
        rw [Array.getD_eq_getD_getElem?] at q105
        clear hsz hdep hout hlat
        go_simp
        exact hK _ _ (hJ.plain HTY (by rw [hls]; decide) (Ex.refl _) (by rw [hT]; first | rfl | exact int_eq (by omega) | exact int_eq (by rw [IntKind.wrap_i64]; omega)) hord)
       ·rw [if_pos (by rfl)]
        intro K hK
        have dd88 := hdep ⟨11, .data⟩ (by simp) rfl
        have q88 := dd88.2 _ rfl _ rfl
        have h88 := hJ.vals 11 dd88.1 no_c
        rw [hT] at h88
        rw [show f 11 = .bool false from h88] at q88
        clear h88
        clear dd88
        have dd106 := hdep ⟨29, .data⟩ (by simp) rfl
        have q106 := dd106.2 _ rfl _ rfl
        have h106 := hJ.vals 29 dd106.1 no_c
        rw [hT] at h106
        rw [show f 29 = .bool false from h106] at q106
        clear h106
        clear dd106
        have hord := no_ord 30 listed
        rw [Array.getD_eq_getD_getElem?] at q88
        rw [Array.getD_eq_getD_getElem?] at q106
        clear hsz hdep hout hlat
        go_simp
        exact hK _ _ (hJ.plain HTY (by rw [hls]; decide) (Ex.refl _) (by rw [hT]; first | rfl | exact int_eq (by omega) | exact int_eq (by rw [IntKind.wrap_i64]; omega)) hord)
      ·intro listed f w4 hall hJ
       have f30 : f 30 = .bool false := by
        have h := hJ.vals 30 (hall 30 (by simp)) no_c
        rw [hT] at h; exact h
       have xk := hJ.ext
       simp only [putAll, Act.put, List.setIfInBounds_toArray, List.set_cons_zero, List.set_cons_succ, Nat.zero_add, Nat.reduceAdd]
       rw [f30]
       clear f30
       clear hJ hall hT HTY
       generalize f 0 = y0
       generalize f 1 = y1
       generalize f 2 = y2
       generalize f 3 = y3
       generalize f 4 = y4
       generalize f 5 = y5
       generalize f 6 = y6
       generalize f 7 = y7
       generalize f 8 = y8
       generalize f 9 = y9
       generalize f 10 = y10
       generalize f 11 = y11
       generalize f 12 = y12
       generalize f 13 = y13
       generalize f 14 = y14
       generalize f 15 = y15
       generalize f 16 = y16
       generalize f 17 = y17
       generalize f 18 = y18
       generalize f 19 = y19
       generalize f 20 = y20
       generalize f 21 = y21
       generalize f 22 = y22
       generalize f 23 = y23
       generalize f 24 = y24
       generalize f 25 = y25
       generalize f 26 = y26
       generalize f 27 = y27
       generalize f 28 = y28
       generalize f 29 = y29
       replace BX := Lib.hid (Ex.trans BX.out (show Ex w3 w4 from xk.below))
       clear xk
       go_wp2_with (first | (with_reducible refine stop_load (t := 30) ?_) | (with_reducible refine stop_store (t := 30) ?_) | (with_reducible refine stop_load (t := 24) ?_) | (with_reducible refine stop_store (t := 24) ?_) | (with_reducible refine stop_mu ?_) | (with_reducible refine stop_lk ?_))
       go_roundw
       case rel => exact ⟨1, by omega, by first | rfl | go_num, BX⟩
       case measure => simp [intOf]; omega
     ·obtain ⟨z, hz⟩ : ∃ y, ts[k1]? = some y := ⟨_, List.getElem?_eq_getElem (by rw [← HNT.out]; omega)⟩
      have k1i : (k1 : Int) < (nt : Int) := by omega
      have k1s : (0 : Int) ≤ (k1 : Int) + 1 := by omega
      have k1t : (k1 : Int) + 1 < (nt : Int) := by omega
      have k1z : (0 : Int) ≤ (k1 : Int) := by omega
      have ZR := Lib.hid (range_ex (HRA.out k1 z hz) XW.out HAB.out)
      have ZN := Lib.hid ((HTS.out.ins k1 z hz).ext BX.out)
      have hls := less_str ZN.out.ok.idN YN.out.ok.idN
      have hsr : idn z.id < idn y.id := by
       rw [← idF_at ts k1 z hz, ← idF_at ts (k1 + 1) y HYK.out, idF_ct HC.out, idF_ct HC.out]
       exact P.out.tb.srt k1 (k1 + 1) (by omega) (by have := congrArg List.length HC.out; simp at this; rw [← this, ← HNT.out]; omega)
      rw [decide_eq_true hsr] at hls
      have HLS := Lib.hid hls
      clear hls hsr hz
      go_wp2_with fail
      obtain ⟨T, hT⟩ : ∃ T : List (Rw w3.heap.size), T = [.is (.bool true), .is (.bool false), .is (.bool false), .is (v.V), .is (.slice (some ⟨a9, o9, none⟩) nt capt), .is (.int .i64 (k1 + 1 : Nat)), .is (.pointer (some ⟨a9, o9 + (k1 + 1) * 42, none⟩)), .is (y.V), .is (.bool true), .is (.bool false), .is (.bool false), .is (.bool false), .is (.int .i64 (k1 + 1 : Nat)), .is (.bool true), .is (.bool true), .is (.slice (some ⟨a9, o9, none⟩) nt capt), .is (.int .i64 (k1 + 1 : Nat)), .is (.int .i64 k1), .is (.pointer (some ⟨a9, o9 + k1 * 42, none⟩)), .is (.pointer (some ⟨a9, o9 + k1 * 42, none⟩)), .is (.slice (some ⟨a9, o9 + k1 * 42, none⟩) 4 4), .is (.string (strL z.id)), .is (.slice (some ⟨a9, o9, none⟩) nt capt), .is (.int .i64 (k1 + 1 : Nat)), .is (.pointer (some ⟨a9, o9 + (k1 + 1) * 42, none⟩)), .is (.pointer (some ⟨a9, o9 + (k1 + 1) * 42, none⟩)), .is (.slice (some ⟨a9, o9 + (k1 + 1) * 42, none⟩) 4 4), .is (.string (strL y.id)), .is (.bool false), .is (.bool false), .is (.bool false)] := ⟨_, rfl⟩
      have HTY : T.map Rw.tys = ([[], [], [], [], [], [], [], [], [], [], [], [], [], [], [], [], [], [], [], [], [], [], [], [], [], [], [], [], [], [], []] : List (List Nat)) := by rw [hT]; rfl
      refine wp_region_gen (JW w3.heap.size w3 [0] T ([[], [], [], [], [], [], [], [], [], [], [], [], [], [], [], [], [], [], [], [], [], [], [], [], [], [], [], [], [], [], []] : List (List Nat)) ([none, none, none, none, none, none, none, none, none, none, none, none, none, none, none, none, none, none, none, none, none, none, none, none, none, none, none, none, none, none, none] : List (Option Nat)) ([] : List (Nat × Nat)) 100000) (by kernel_rfl) (by kernel_rfl) (by kernel_rfl) (fitB_spec (by kernel_rfl)) (fun listed f h => JW.start (Nat.le_refl _) listed f h) ?_ ?_
      ·intro i o ho
       have hi : i < 31 := (Array.getElem?_eq_some_iff.1 ho).1
       have hi' : i = 0 ∨ i = 1 ∨ i = 2 ∨ i = 3 ∨ i = 4 ∨ i = 5 ∨ i = 6 ∨ i = 7 ∨ i = 8 ∨ i = 9 ∨ i = 10 ∨ i = 11 ∨ i = 12 ∨ i = 13 ∨ i = 14 ∨ i = 15 ∨ i = 16 ∨ i = 17 ∨ i = 18 ∨ i = 19 ∨ i = 20 ∨ i = 21 ∨ i = 22 ∨ i = 23 ∨ i = 24 ∨ i = 25 ∨ i = 26 ∨ i = 27 ∨ i = 28 ∨ i = 29 ∨ i = 30 := by omega
       clear hi
       rcases hi' with rfl | rfl | rfl | rfl | rfl | rfl | rfl | rfl | rfl | rfl | rfl | rfl | rfl | rfl | rfl | rfl | rfl | rfl | rfl | rfl | rfl | rfl | rfl | rfl | rfl | rfl | rfl | rfl | rfl | rfl | rfl
       all_goals (simp only [List.getElem?_toArray, List.getElem?_cons_zero, List.getElem?_cons_succ, Option.some.injEq] at ho; subst ho; intro listed f a w4 hJ hsz hls hun hdep hout hlat)
       ·rw [if_pos (by rfl)]
        intro K hK
        have q13 := hout 13 (outB_spec (by kernel_rfl))
        have hord := no_ord 0 listed
        refine wp_mv _ rfl (hK _ _ ?_)
        rw [show a.eval (.tmp 13) = .bool true from q13]
        exact hJ.plain HTY (by rw [hls]; decide) (Ex.refl _) (by rw [hT]; rfl) hord
       ·rw [if_pos (by rfl)]
        intro K hK
        have dd77 := hdep ⟨0, .data⟩ (by simp) rfl
        have q77 := dd77.2 _ rfl _ rfl
        have h77 := hJ.vals 0 dd77.1 no_c
        rw [hT] at h77
        rw [show f 0 = .bool true from h77] at q77
        clear h77
        clear dd77
        have hord := no_ord 1 listed
        rw [Array.getD_eq_getD_getElem?] at q77
        clear hsz hdep hout hlat
        go_simp
        exact hK _ _ (hJ.plain HTY (by rw [hls]; decide) (Ex.refl _) (by rw [hT]; first | rfl | exact int_eq (by omega) | exact int_eq (by rw [IntKind.wrap_i64]; omega)) hord)
       ·rw [if_pos (by rfl)]
        intro K hK
        have dd78 := hdep ⟨1, .data⟩ (by simp) rfl
        have q78 := dd78.2 _ rfl _ rfl
        have h78 := hJ.vals 1 dd78.1 no_c
        rw [hT] at h78
        rw [show f 1 = .bool false from h78] at q78
        clear h78
        clear dd78
        have hord := no_ord 2 listed
        refine wp_mv _ rfl (hK _ _ ?_)
        rw [show a.eval (.tmp 78) = .bool false from q78]
        exact hJ.plain HTY (by rw [hls]; decide) (Ex.refl _) (by rw [hT]; rfl) hord
       ·have ddg := hdep ⟨2, .guard⟩ (by simp) rfl
        have kg := ddg.2 _ rfl _ rfl
        have hg := hJ.vals 2 ddg.1 no_c
        rw [hT] at hg
        rw [show f 2 = .bool false from hg] at kg
        clear hg ddg
        rw [if_pos (wanted_of rfl rfl rfl kg)]
        clear kg
        intro K hK
        have q12 := hout 12 (outB_spec (by kernel_rfl))
        have hord := no_ord 3 listed
        exact ld_v (.tmp 12) g12 v rfl q12 (G12.out.ext hJ.ext.below) (hK _ _ (hJ.plain HTY (by rw [hls]; decide) (Ex.refl _) (by rw [hT]; rfl) hord))
       ·have ddg := hdep ⟨2, .guard⟩ (by simp) rfl
        have kg := ddg.2 _ rfl _ rfl
        have hg := hJ.vals 2 ddg.1 no_c
        rw [hT] at hg
        rw [show f 2 = .bool false from hg] at kg
        clear hg ddg
        rw [if_pos (wanted_of rfl rfl rfl kg)]
        clear kg
        intro K hK
        have q10 := hout 10 (outB_spec (by kernel_rfl))
        have hord := no_ord 4 listed
        refine wp_mv _ rfl (hK _ _ ?_)
        rw [show a.eval (.tmp 10) = .slice (some ⟨a9, o9, none⟩) nt capt from q10]
        exact hJ.plain HTY (by rw [hls]; decide) (Ex.refl _) (by rw [hT]; rfl) hord
       ·have ddg := hdep ⟨2, .guard⟩ (by simp) rfl
        have kg := ddg.2 _ rfl _ rfl
        have hg := hJ.vals 2 ddg.1 no_c
        rw [hT] at hg
        rw [show f 2 = .bool false from hg] at kg
        clear hg ddg
        rw [if_pos (wanted_of rfl rfl rfl kg)]
        clear kg
        intro K hK
        have q11 := hout 11 (outB_spec (by kernel_rfl))
        have hord := no_ord 5 listed
        refine wp_mv _ rfl (hK _ _ ?_)
        rw [show a.eval (.tmp 11) = .int .i64 (k1 + 1 : Nat) from q11]
        exact hJ.plain HTY (by rw [hls]; decide) (Ex.refl _) (by rw [hT]; rfl) hord
       ·have ddg := hdep ⟨2, .guard⟩ (by simp) rfl
        have kg := ddg.2 _ rfl _ rfl
        have hg := hJ.vals 2 ddg.1 no_c
        rw [hT] at hg
        rw [show f 2 = .bool false from hg] at kg
        clear hg ddg
        rw [if_pos (wanted_of rfl rfl rfl kg)]
        clear kg
        intro K hK
        have dd81 := hdep ⟨4, .data⟩ (by simp) rfl
        have q81 := dd81.2 _ rfl _ rfl
        have h81 := hJ.vals 4 dd81.1 no_c
        rw [hT] at h81
        rw [show f 4 = .slice (some ⟨a9, o9, none⟩) nt capt from h81] at q81
        clear h81
        clear dd81
        have dd82 := hdep ⟨5, .data⟩ (by simp) rfl
        have q82 := dd82.2 _ rfl _ rfl
        have h82 := hJ.vals 5 dd82.1 no_c
        rw [hT] at h82
        rw [show f 5 = .int .i64 (k1 + 1 : Nat) from h82] at q82
        clear h82
        clear dd82
        have hord := no_ord 6 listed
        rw [Array.getD_eq_getD_getElem?] at q81
        rw [Array.getD_eq_getD_getElem?] at q82
        clear hsz hdep hout hlat
        go_simp
        exact hK _ _ (hJ.plain HTY (by rw [hls]; decide) (Ex.refl _) (by rw [hT]; first | rfl | exact int_eq (by omega) | exact int_eq (by rw [IntKind.wrap_i64]; omega)) hord)
       ·have ddg := hdep ⟨2, .guard⟩ (by simp) rfl
        have kg := ddg.2 _ rfl _ rfl
        have hg := hJ.vals 2 ddg.1 no_c
        rw [hT] at hg
        rw [show f 2 = .bool false from hg] at kg
        clear hg ddg
        rw [if_pos (wanted_of rfl rfl rfl kg)]
        clear kg
        intro K hK
        have dd83 := hdep ⟨6, .data⟩ (by simp) rfl
        have q83 := dd83.2 _ rfl _ rfl
        have h83 := hJ.vals 6 dd83.1 no_c
        rw [hT] at h83
        rw [show f 6 = .pointer (some ⟨a9, o9 + (k1 + 1) * 42, none⟩) from h83] at q83
        clear h83
        clear dd83
        have hord := no_ord 7 listed
        exact ld_vr (.tmp 83) a9 (o9 + (k1 + 1) * 42) y YN.out.ok rfl q83 (range_ex YR3.out hJ.ext.below HAB3.out) (hK _ _ (hJ.plain HTY (by rw [hls]; decide) (Ex.refl _) (by rw [hT]; rfl) hord))
       ·have ddg := hdep ⟨2, .guard⟩ (by simp) rfl
        have kg := ddg.2 _ rfl _ rfl
        have hg := hJ.vals 2 ddg.1 no_c
        rw [hT] at hg
        rw [show f 2 = .bool false from hg] at kg
        clear hg ddg
        rw [if_pos (wanted_of rfl rfl rfl kg)]
        clear kg
        intro K hK
        have dd80 := hdep ⟨3, .data⟩ (by simp) rfl
        have q80 := dd80.2 _ rfl _ rfl
        have h80 := hJ.vals 3 dd80.1 no_c
        rw [hT] at h80
        rw [show f 3 = v.V from h80] at q80
        clear h80
        clear dd80
        have dd84 := hdep ⟨7, .data⟩ (by simp) rfl
        have q84 := dd84.2 _ rfl _ rfl
        have h84 := hJ.vals 7 dd84.1 no_c
        rw [hT] at h84
        rw [show f 7 = y.V from h84] at q84
        clear h84
        clear dd84
        have hord := no_ord 8 listed
        rw [Array.getD_eq_getD_getElem?] at q80
        rw [Array.getD_eq_getD_getElem?] at q84
        clear hsz hdep hout hlat
        go_simp
        refine (rsame_any v y w4 (VN.out.vi.ext hJ.ext.below) (YN.out.vi.ext hJ.ext.below)).mono ?_
        rintro e w5 ⟨rfl, x3⟩
        rw [decide_eq_true HVY.out]
        exact hK _ _ (hJ.plain HTY (by rw [hls]; decide) x3 (by rw [hT]; rfl) hord)
       ·have ddg := hdep ⟨2, .guard⟩ (by simp) rfl
        have kg := ddg.2 _ rfl _ rfl
        have hg := hJ.vals 2 ddg.1 no_c
        rw [hT] at hg
        rw [show f 2 = .bool false from hg] at kg
        clear hg ddg
        rw [if_pos (wanted_of rfl rfl rfl kg)]
        clear kg
        intro K hK
        have dd85 := hdep ⟨8, .data⟩ (by simp) rfl
        have q85 := dd85.2 _ rfl _ rfl
        have h85 := hJ.vals 8 dd85.1 no_c
        rw [hT] at h85
        rw [show f 8 = .bool true from h85] at q85
        clear h85
        clear dd85
        have hord := no_ord 9 listed
        rw [Array.getD_eq_getD_getElem?] at q85
        clear hsz hdep hout hlat
        go_simp
        exact hK _ _ (hJ.plain HTY (by rw [hls]; decide) (Ex.refl _) (by rw [hT]; first | rfl | exact int_eq (by omega) | exact int_eq (by rw [IntKind.wrap_i64]; omega)) hord)
       ·rw [if_pos (by rfl)]
        intro K hK
        have dd79 := hdep ⟨2, .data⟩ (by simp) rfl
        have q79 := dd79.2 _ rfl _ rfl
        have h79 := hJ.vals 2 dd79.1 no_c
        rw [hT] at h79
        rw [show f 2 = .bool false from h79] at q79
        clear h79
        clear dd79
        have dd86 := hdep ⟨9, .data⟩ (by simp) rfl
        have q86 := dd86.2 _ rfl _ rfl
        have h86 := hJ.vals 9 dd86.1 no_c
        rw [hT] at h86
        rw [show f 9 = .bool false from h86] at q86
        clear h86
        clear dd86
        have hord := no_ord 10 listed
        rw [Array.getD_eq_getD_getElem?] at q79
        rw [Array.getD_eq_getD_getElem?] at q86
        clear hsz hdep hout hlat
        go_simp
        exact hK _ _ (hJ.plain HTY (by rw [hls]; decide) (Ex.refl _) (by rw [hT]; first | rfl | exact int_eq (by omega) | exact int_eq (by rw [IntKind.wrap_i64]; omega)) hord)
       ·rw [if_pos (by rfl)]
        intro K hK
        have dd87 := hdep ⟨10, .data⟩ (by simp) rfl
        have q87 := dd87.2 _ rfl _ rfl
        have h87 := hJ.vals 10 dd87.1 no_c
        rw [hT] at h87
        rw [show f 10 = .bool false from h87] at q87
        clear h87
        clear dd87
        have hord := no_ord 11 listed
        refine wp_mv _ rfl (hK _ _ ?_)
        rw [show a.eval (.tmp 87) = .bool false from q87]
        exact hJ.plain HTY (by rw [hls]; decide) (Ex.refl _) (by rw [hT]; rfl) hord
       ·have ddg := hdep ⟨11, .guard⟩ (by simp) rfl
        have kg := ddg.2 _ rfl _ rfl
        have hg := hJ.vals 11 ddg.1 no_c
        rw [hT] at hg
        rw [show f 11 = .bool false from hg] at kg
        clear hg ddg
        rw [if_pos (wanted_of rfl rfl rfl kg)]
        clear kg
        intro K hK
        have q11 := hout 11 (outB_spec (by kernel_rfl))
        have hord := no_ord 12 listed
        refine wp_mv _ rfl (hK _ _ ?_)
        rw [show a.eval (.tmp 11) = .int .i64 (k1 + 1 : Nat) from q11]
        exact hJ.plain HTY (by rw [hls]; decide) (Ex.refl _) (by rw [hT]; rfl) hord
       ·have ddg := hdep ⟨11, .guard⟩ (by simp) rfl
        have kg := ddg.2 _ rfl _ rfl
        have hg := hJ.vals 11 ddg.1 no_c
        rw [hT] at hg
        rw [show f 11 = .bool false from hg] at kg
        clear hg ddg
        rw [if_pos (wanted_of rfl rfl rfl kg)]
        clear kg
        intro K hK
        have dd89 := hdep ⟨12, .data⟩ (by simp) rfl
        have q89 := dd89.2 _ rfl _ rfl
        have h89 := hJ.vals 12 dd89.1 no_c
        rw [hT] at h89
        rw [show f 12 = .int .i64 (k1 + 1 : Nat) from h89] at q89
        clear h89
        clear dd89
        have hord := no_ord 13 listed
        rw [Array.getD_eq_getD_getElem?] at q89
        have qk : (0 : Int) < ((k1 + 1 : Nat) : Int) := by omega
        clear hsz hdep hout hlat
        go_simp
        exact hK _ _ (hJ.plain HTY (by rw [hls]; decide) (Ex.refl _) (by rw [hT]; first | rfl | simp) hord)
       ·have ddg := hdep ⟨11, .guard⟩ (by simp) rfl
        have kg := ddg.2 _ rfl _ rfl
        have hg := hJ.vals 11 ddg.1 no_c
        rw [hT] at hg
        rw [show f 11 = .bool false from hg] at kg
        clear hg ddg
        rw [if_pos (wanted_of rfl rfl rfl kg)]
        clear kg
        intro K hK
        have dd90 := hdep ⟨13, .data⟩ (by simp) rfl
        have q90 := dd90.2 _ rfl _ rfl
        have h90 := hJ.vals 13 dd90.1 no_c
        rw [hT] at h90
        rw [show f 13 = .bool true from h90] at q90
        clear h90
        clear dd90
        have hord := no_ord 14 listed
        refine wp_mv _ rfl (hK _ _ ?_)
        rw [show a.eval (.tmp 90) = .bool true from q90]
        exact hJ.plain HTY (by rw [hls]; decide) (Ex.refl _) (by rw [hT]; rfl) hord
       ·have ddg := hdep ⟨14, .guard⟩ (by simp) rfl
        have kg := ddg.2 _ rfl _ rfl
        have hg := hJ.vals 14 ddg.1 no_c
        rw [hT] at hg
        rw [show f 14 = .bool true from hg] at kg
        clear hg ddg
        rw [if_pos (wanted_of rfl rfl rfl kg)]
        clear kg
        intro K hK
        have q10 := hout 10 (outB_spec (by kernel_rfl))
        have hord := no_ord 15 listed
        refine wp_mv _ rfl (hK _ _ ?_)
        rw [show a.eval (.tmp 10) = .slice (some ⟨a9, o9, none⟩) nt capt from q10]
        exact hJ.plain HTY (by rw [hls]; decide) (Ex.refl _) (by rw [hT]; rfl) hord
       ·have ddg := hdep ⟨14, .guard⟩ (by simp) rfl
        have kg := ddg.2 _ rfl _ rfl
        have hg := hJ.vals 14 ddg.1 no_c
        rw [hT] at hg
        rw [show f 14 = .bool true from hg] at kg
        clear hg ddg
        rw [if_pos (wanted_of rfl rfl rfl kg)]
        clear kg
        intro K hK
        have q11 := hout 11 (outB_spec (by kernel_rfl))
        have hord := no_ord 16 listed
        refine wp_mv _ rfl (hK _ _ ?_)
        rw [show a.eval (.tmp 11) = .int .i64 (k1 + 1 : Nat) from q11]
        exact hJ.plain HTY (by rw [hls]; decide) (Ex.refl _) (by rw [hT]; rfl) hord
       ·have ddg := hdep ⟨14, .guard⟩ (by simp) rfl
        have kg := ddg.2 _ rfl _ rfl
        have hg := hJ.vals 14 ddg.1 no_c
        rw [hT] at hg
        rw [show f 14 = .bool true from hg] at kg
        clear hg ddg
        rw [if_pos (wanted_of rfl rfl rfl kg)]
        clear kg
        intro K hK
        have dd93 := hdep ⟨16, .data⟩ (by simp) rfl
        have q93 := dd93.2 _ rfl _ rfl
        have h93 := hJ.vals 16 dd93.1 no_c
        rw [hT] at h93
        rw [show f 16 = .int .i64 (k1 + 1 : Nat) from h93] at q93
        clear h93
        clear dd93
        have hord := no_ord 17 listed
        rw [Array.getD_eq_getD_getElem?] at q93
        clear hsz hdep hout hlat
        go_simp
        exact hK _ _ (hJ.plain HTY (by rw [hls]; decide) (Ex.refl _) (by rw [hT]; first | rfl | exact int_eq (by omega) | exact int_eq (by rw [IntKind.wrap_i64]; omega)) hord)
       ·have ddg := hdep ⟨14, .guard⟩ (by simp) rfl
        have kg := ddg.2 _ rfl _ rfl
        have hg := hJ.vals 14 ddg.1 no_c
        rw [hT] at hg
        rw [show f 14 = .bool true from hg] at kg
        clear hg ddg
        rw [if_pos (wanted_of rfl rfl rfl kg)]
        clear kg
        intro K hK
        have dd92 := hdep ⟨15, .data⟩ (by simp) rfl
        have q92 := dd92.2 _ rfl _ rfl
        have h92 := hJ.vals 15 dd92.1 no_c
        rw [hT] at h92
        rw [show f 15 = .slice (some ⟨a9, o9, none⟩) nt capt from h92] at q92
        clear h92
        clear dd92
        have dd94 := hdep ⟨17, .data⟩ (by simp) rfl
        have q94 := dd94.2 _ rfl _ rfl
        have h94 := hJ.vals 17 dd94.1 no_c
        rw [hT] at h94
        rw [show f 17 = .int .i64 k1 from h94] at q94
        clear h94
        clear dd94
        have hord := no_ord 18 listed
        rw [Array.getD_eq_getD_getElem?] at q92
        rw [Array.getD_eq_getD_getElem?] at q94
        clear hsz hdep hout hlat
        go_simp
        exact hK _ _ (hJ.plain HTY (by rw [hls]; decide) (Ex.refl _) (by rw [hT]; first | rfl | exact int_eq (by omega) | exact int_eq (by rw [IntKind.wrap_i64]; omega)) hord)
       ·have ddg := hdep ⟨14, .guard⟩ (by simp) rfl
        have kg := ddg.2 _ rfl _ rfl
        have hg := hJ.vals 14 ddg.1 no_c
        rw [hT] at hg
        rw [show f 14 = .bool true from hg] at kg
        clear hg ddg
        rw [if_pos (wanted_of rfl rfl rfl kg)]
        clear kg
        intro K hK
        have dd95 := hdep ⟨18, .data⟩ (by simp) rfl
        have q95 := dd95.2 _ rfl _ rfl
        have h95 := hJ.vals 18 dd95.1 no_c
        rw [hT] at h95
        rw [show f 18 = .pointer (some ⟨a9, o9 + k1 * 42, none⟩) from h95] at q95
        clear h95
        clear dd95
        have hord := no_ord 19 listed
        rw [Array.getD_eq_getD_getElem?] at q95
        clear hsz hdep hout hlat
        go_simp
        exact hK _ _ (hJ.plain HTY (by rw [hls]; decide) (Ex.refl _) (by rw [hT]; first | rfl | exact int_eq (by omega) | exact int_eq (by rw [IntKind.wrap_i64]; omega)) hord)
       ·have ddg := hdep ⟨14, .guard⟩ (by simp) rfl
        have kg := ddg.2 _ rfl _ rfl
        have hg := hJ.vals 14 ddg.1 no_c
        rw [hT] at hg
        rw [show f 14 = .bool true from hg] at kg
        clear hg ddg
        rw [if_pos (wanted_of rfl rfl rfl kg)]
        clear kg
        intro K hK
        have dd96 := hdep ⟨19, .data⟩ (by simp) rfl
        have q96 := dd96.2 _ rfl _ rfl
        have h96 := hJ.vals 19 dd96.1 no_c
        rw [hT] at h96
        rw [show f 19 = .pointer (some ⟨a9, o9 + k1 * 42, none⟩) from h96] at q96
        clear h96
        clear dd96
        have hord := no_ord 20 listed
        rw [Array.getD_eq_getD_getElem?] at q96
        clear hsz hdep hout hlat
        go_simp
        exact hK _ _ (hJ.plain HTY (by rw [hls]; decide) (Ex.refl _) (by rw [hT]; first | rfl | exact int_eq (by omega) | exact int_eq (by rw [IntKind.wrap_i64]; omega)) hord)
       ·have ddg := hdep ⟨14, .guard⟩ (by simp) rfl
        have kg := ddg.2 _ rfl _ rfl
        have hg := hJ.vals 14 ddg.1 no_c
        rw [hT] at hg
        rw [show f 14 = .bool true from hg] at kg
        clear hg ddg
        rw [if_pos (wanted_of rfl rfl rfl kg)]
        clear kg
        intro K hK
        have dd97 := hdep ⟨20, .data⟩ (by simp) rfl
        have q97 := dd97.2 _ rfl _ rfl
        have h97 := hJ.vals 20 dd97.1 no_c
        rw [hT] at h97
        rw [show f 20 = .slice (some ⟨a9, o9 + k1 * 42, none⟩) 4 4 from h97] at q97
        clear h97
        clear dd97
        have hord := no_ord 21 listed
        have hcv := conv_id ZN.out.ok (range_ex ZR.out hJ.ext.below HAB3.out) (Nat.lt_of_lt_of_le HAB3.out (Ex.sz' hJ.ext.below))
        rw [Array.getD_eq_getD_getElem?] at q97
        clear hsz hdep hout hlat
        go_simp
        exact hK _ _ (hJ.plain HTY (by rw [hls]; decide) (Ex.refl _) (by rw [hT]; rfl) hord)
       ·have ddg := hdep ⟨14, .guard⟩ (by simp) rfl
        have kg := ddg.2 _ rfl _ rfl
        have hg := hJ.vals 14 ddg.1 no_c
        rw [hT] at hg
        rw [show f 14 = .bool true from hg] at kg
        clear hg ddg
        rw [if_pos (wanted_of rfl rfl rfl kg)]
        clear kg
        intro K hK
        have q10 := hout 10 (outB_spec (by kernel_rfl))
        have hord := no_ord 22 listed
        refine wp_mv _ rfl (hK _ _ ?_)
        rw [show a.eval (.tmp 10) = .slice (some ⟨a9, o9, none⟩) nt capt from q10]
        exact hJ.plain HTY (by rw [hls]; decide) (Ex.refl _) (by rw [hT]; rfl) hord
       ·have ddg := hdep ⟨14, .guard⟩ (by simp) rfl
        have kg := ddg.2 _ rfl _ rfl
        have hg := hJ.vals 14 ddg.1 no_c
        rw [hT] at hg
        rw [show f 14 = .bool true from hg] at kg
        clear hg ddg
        rw [if_pos (wanted_of rfl rfl rfl kg)]
        clear kg
        intro K hK
        have q11 := hout 11 (outB_spec (by kernel_rfl))
        have hord := no_ord 23 listed
        refine wp_mv _ rfl (hK _ _ ?_)
        rw [show a.eval (.tmp 11) = .int .i64 (k1 + 1 : Nat) from q11]
        exact hJ.plain HTY (by rw [hls]; decide) (Ex.refl _) (by rw [hT]; rfl) hord
       ·have ddg := hdep ⟨14, .guard⟩ (by simp) rfl
        have kg := ddg.2 _ rfl _ rfl
        have hg := hJ.vals 14 ddg.1 no_c
        rw [hT] at hg
        rw [show f 14 = .bool true from hg] at kg
        clear hg ddg
        rw [if_pos (wanted_of rfl rfl rfl kg)]
        clear kg
        intro K hK
        have dd99 := hdep ⟨22, .data⟩ (by simp) rfl
        have q99 := dd99.2 _ rfl _ rfl
        have h99 := hJ.vals 22 dd99.1 no_c
        rw [hT] at h99
        rw [show f 22 = .slice (some ⟨a9, o9, none⟩) nt capt from h99] at q99
        clear h99
        clear dd99
        have dd100 := hdep ⟨23, .data⟩ (by simp) rfl
        have q100 := dd100.2 _ rfl _ rfl
        have h100 := hJ.vals 23 dd100.1 no_c
        rw [hT] at h100
        rw [show f 23 = .int .i64 (k1 + 1 : Nat) from h100] at q100
        clear h100
        clear dd100
        have hord := no_ord 24 listed
        rw [Array.getD_eq_getD_getElem?] at q99
        rw [Array.getD_eq_getD_getElem?] at q100
        clear hsz hdep hout hlat
        go_simp
        exact hK _ _ (hJ.plain HTY (by rw [hls]; decide) (Ex.refl _) (by rw [hT]; first | rfl | exact int_eq (by omega) | exact int_eq (by rw [IntKind.wrap_i64]; omega)) hord)
       ·have ddg := hdep ⟨14, .guard⟩ (by simp) rfl
        have kg := ddg.2 _ rfl _ rfl
        have hg := hJ.vals 14 ddg.1 no_c
        rw [hT] at hg
        rw [show f 14 = .bool true from hg] at kg
        clear hg ddg
        rw [if_pos (wanted_of rfl rfl rfl kg)]
        clear kg
        intro K hK
        have dd101 := hdep ⟨24, .data⟩ (by simp) rfl
        have q101 := dd101.2 _ rfl _ rfl
        have h101 := hJ.vals 24 dd101.1 no_c
        rw [hT] at h101
        rw [show f 24 = .pointer (some ⟨a9, o9 + (k1 + 1) * 42, none⟩) from h101] at q101
        clear h101
        clear dd101
        have hord := no_ord 25 listed
        rw [Array.getD_eq_getD_getElem?] at q101
        clear hsz hdep hout hlat
        go_simp
        exact hK _ _ (hJ.plain HTY (by rw [hls]; decide) (Ex.refl _) (by rw [hT]; first | rfl | exact int_eq (by omega) | exact int_eq (by rw [IntKind.wrap_i64]; omega)) hord)
       ·have ddg := hdep ⟨14, .guard⟩ (by simp) rfl
        have kg := ddg.2 _ rfl _ rfl
        have hg := hJ.vals 14 ddg.1 no_c
        rw [hT] at hg
        rw [show f 14 = .bool true from hg] at kg
        clear hg ddg
        rw [if_pos (wanted_of rfl rfl rfl kg)]
        clear kg
        intro K hK
        have dd102 := hdep ⟨25, .data⟩ (by simp) rfl
        have q102 := dd102.2 _ rfl _ rfl
        have h102 := hJ.vals 25 dd102.1 no_c
        rw [hT] at h102
        rw [show f 25 = .pointer (some ⟨a9, o9 + (k1 + 1) * 42, none⟩) from h102] at q102
        clear h102
        clear dd102
        have hord := no_ord 26 listed
        rw [Array.getD_eq_getD_getElem?] at q102
        clear hsz hdep hout hlat
        go_simp
        exact hK _ _ (hJ.plain HTY (by rw [hls]; decide) (Ex.refl _) (by rw [hT]; first | rfl | exact int_eq (by omega) | exact int_eq (by rw [IntKind.wrap_i64]; omega)) hord)
       ·have ddg := hdep ⟨14, .guard⟩ (by simp) rfl
        have kg := ddg.2 _ rfl _ rfl
        have hg := hJ.vals 14 ddg.1 no_c
        rw [hT] at hg
        rw [show f 14 = .bool true from hg] at kg
        clear hg ddg
        rw [if_pos (wanted_of rfl rfl rfl kg)]
        clear kg
        intro K hK
        have dd103 := hdep ⟨26, .data⟩ (by simp) rfl
        have q103 := dd103.2 _ rfl _ rfl
        have h103 := hJ.vals 26 dd103.1 no_c
        rw [hT] at h103
        rw [show f 26 = .slice (some ⟨a9, o9 + (k1 + 1) * 42, none⟩) 4 4 from h103] at q103
        clear h103
        clear dd103
        have hord := no_ord 27 listed
        have hcv := conv_id YN.out.ok (range_ex YR3.out hJ.ext.below HAB3.out) (Nat.lt_of_lt_of_le HAB3.out (Ex.sz' hJ.ext.below))
        rw [Array.getD_eq_getD_getElem?] at q103
        clear hsz hdep hout hlat
        go_simp
        exact hK _ _ (hJ.plain HTY (by rw [hls]; decide) (Ex.refl _) (by rw [hT]; rfl) hord)
       ·have ddg := hdep ⟨14, .guard⟩ (by simp) rfl
        have kg := ddg.2 _ rfl _ rfl
        have hg := hJ.vals 14 ddg.1 no_c
        rw [hT] at hg
        rw [show f 14 = .bool true from hg] at kg
        clear hg ddg
        rw [if_pos (wanted_of rfl rfl rfl kg)]
        clear kg
        intro K hK
        have dd98 := hdep ⟨21, .data⟩ (by simp) rfl
        have q98 := dd98.2 _ rfl _ rfl
        have h98 := hJ.vals 21 dd98.1 no_c
        rw [hT] at h98
        rw [show f 21 = .string (strL z.id) from h98] at q98
        clear h98
        clear dd98
        have dd104 := hdep ⟨27, .data⟩ (by simp) rfl
        have q104 := dd104.2 _ rfl _ rfl
        have h104 := hJ.vals 27 dd104.1 no_c
        rw [hT] at h104
        rw [show f 27 = .string (strL y.id) from h104] at q104
        clear h104
        clear dd104
        have hord := no_ord 28 listed
        rw [Array.getD_eq_getD_getElem?] at q98
        rw [Array.getD_eq_getD_getElem?] at q104
        have hl := HLS.out
        clear hsz hdep hout hlat
        go_simp
        exact hK _ _ (hJ.plain HTY (by rw [hls]; decide) (Ex.refl _) (by rw [hT]; first | rfl | (rw [hl]; rfl) | simp [hl]) hord)
       ·have ddg := hdep ⟨11, .guard⟩ (by simp) rfl
        have kg := ddg.2 _ rfl _ rfl
        have hg := hJ.vals 11 ddg.1 no_c
        rw [hT] at hg
        rw [show f 11 = .bool false from hg] at kg
        clear hg ddg
        rw [if_pos (wanted_of rfl rfl rfl kg)]
        clear kg
        intro K hK
        have dd91 := hdep ⟨14, .data⟩ (by simp) rfl
        have q91 := dd91.2 _ rfl _ rfl
        have h91 := hJ.vals 14 dd91.1 no_c
        rw [hT] at h91
        rw [show f 14 = .bool true from h91] at q91
        clear h91
        clear dd91
        have dd105 := hdep ⟨28, .data⟩ (by simp) rfl
        have q105 := dd105.2 _ rfl _ rfl
        have h105 := hJ.vals 28 dd105.1 no_c
        rw [hT] at h105
        rw [show f 28 = .bool false from h105] at q105
        clear h105
        clear dd105
        have hord := no_ord 29 listed
        rw [Array.getD_eq_getD_getElem?] at q91
        rw [Array.getD_eq_getD_getElem?] at q105
        clear hsz hdep hout hlat
        go_simp
        exact hK _ _ (hJ.plain HTY (by rw [hls]; decide) (Ex.refl _) (by rw [hT]; first | rfl | exact int_eq (by omega) | exact int_eq (by rw [IntKind.wrap_i64]; omega)) hord)
       ·rw [if_pos (by rfl)]
        intro K hK
        have dd88 := hdep ⟨11, .data⟩ (by simp) rfl
        have q88 := dd88.2 _ rfl _ rfl
        have h88 := hJ.vals 11 dd88.1 no_c
        rw [hT] at h88
        rw [show f 11 = .bool false from h88] at q88
        clear h88
        clear dd88
        have dd106 := hdep ⟨29, .data⟩ (by simp) rfl
        have q106 := dd106.2 _ rfl _ rfl
        have h106 := hJ.vals 29 dd106.1 no_c
        rw [hT] at h106
        rw [show f 29 = .bool false from h106] at q106
        clear h106
        clear dd106
        have hord := no_ord 30 listed
        rw [Array.getD_eq_getD_getElem?] at q88
        rw [Array.getD_eq_getD_getElem?] at q106
        clear hsz hdep hout hlat
        go_simp
        exact hK _ _ (hJ.plain HTY (by rw [hls]; decide) (Ex.refl _) (by rw [hT]; first | rfl | exact int_eq (by omega) | exact int_eq (by rw [IntKind.wrap_i64]; omega)) hord)
      ·intro listed f w4 hall hJ
       have f30 : f 30 = .bool false := by
        have h := hJ.vals 30 (hall 30 (by simp)) no_c
        rw [hT] at h; exact h
       have xk := hJ.ext
       simp only [putAll, Act.put, List.setIfInBounds_toArray, List.set_cons_zero, List.set_cons_succ, Nat.zero_add, Nat.reduceAdd]
       rw [f30]
       clear f30
       clear hJ hall hT HTY
       generalize f 0 = y0
       generalize f 1 = y1
       generalize f 2 = y2
       generalize f 3 = y3
       generalize f 4 = y4
       generalize f 5 = y5
       generalize f 6 = y6
       generalize f 7 = y7
       generalize f 8 = y8
       generalize f 9 = y9
       generalize f 10 = y10
       generalize f 11 = y11
       generalize f 12 = y12
       generalize f 13 = y13
       generalize f 14 = y14
       generalize f 15 = y15
       generalize f 16 = y16
       generalize f 17 = y17
       generalize f 18 = y18
       generalize f 19 = y19
       generalize f 20 = y20
       generalize f 21 = y21
       generalize f 22 = y22
       generalize f 23 = y23
       generalize f 24 = y24
       generalize f 25 = y25
       generalize f 26 = y26
       generalize f 27 = y27
       generalize f 28 = y28
       generalize f 29 = y29
       replace BX := Lib.hid (Ex.trans BX.out (show Ex w3 w4 from xk.below))
       clear xk
       go_wp2_with (first | (with_reducible refine stop_load (t := 30) ?_) | (with_reducible refine stop_store (t := 30) ?_) | (with_reducible refine stop_load (t := 24) ?_) | (with_reducible refine stop_store (t := 24) ?_) | (with_reducible refine stop_mu ?_) | (with_reducible refine stop_lk ?_))
       go_roundw
       case rel => exact ⟨k1 + 1 + 1, by omega, by first | rfl | go_num, BX⟩
       case measure => simp [intOf]; omega
    ·obtain rfl : nt = k := by omega
     have q1 : ¬ (nt : Int) < (nt : Int) := by omega
     go_wp2_with (first | (with_reducible refine stop_load (t := 30) ?_) | (with_reducible refine stop_store (t := 30) ?_) | (with_reducible refine stop_load (t := 24) ?_) | (with_reducible refine stop_store (t := 24) ?_) | (with_reducible refine stop_mu ?_) | (with_reducible refine stop_lk ?_))
     refine (known12 _).mono ?_
     rintro e wz ⟨rfl, xz⟩
     have BZ := Lib.hid (Ex.trans P.out.ex (Ex.trans BX.out xz))
     clear xz
     go_wp2_with fail
     go_ret
     exact ⟨rfl, BZ.out⟩
end Go.Proofs.Ytedljddjmojeeaa
