/- walks: the law SlotsLast -/
import Derived.Test.YtgoiidpcdifojaaLj
namespace Go.Proofs.Ytgoiidpcdifojaa
open Go.RowKit
open Sm (strL pt_conv)
set_option maxHeartbeats 16000000 in
set_option maxRecDepth 100000 in
theorem slotsLast_walk (qa qb : Aq) (x : Int) (hx : (Lit.int .i64 x).wf = true) (w : World) (ha : qa.In w) (hb : qb.In w) :
    Calls Try.prog 3 #[qa.V, qb.V, .int .i64 x] w fun e w' => e = .returned (.bool true) ∧ Below w.heap.size w w' := by
  have NW := Lib.hid (new7_any w)
  have KN := Lib.hid known7_any
  have WT := Lib.hid (fun W => within_any x 30 (by decide) (by decide) hx W)
  obtain ⟨ada, capa, la⟩ := qa
  obtain ⟨adb, capb, lb⟩ := qb
  have HA := Lib.hid ha
  have HB := Lib.hid hb
  unfold Aq.V
  simp only
  obtain ⟨na, hna⟩ : ∃ n, n = la.length := ⟨_, rfl⟩
  obtain ⟨nb, hnb⟩ : ∃ n, n = lb.length := ⟨_, rfl⟩
  have HNA := Lib.hid hna
  have HNB := Lib.hid hnb
  have hla : na ≤ 9223372036854775807 := by rw [hna]; exact ha.len
  have hlb : nb ≤ 9223372036854775807 := by rw [hnb]; exact hb.len
  rw [← hna, ← hnb]
  clear ha hb hna hnb hx
  obtain ⟨ka, hka⟩ : ∃ k, k = min na 20 := ⟨_, rfl⟩
  obtain ⟨kb, hkb⟩ : ∃ k, k = min nb 20 := ⟨_, rfl⟩
  have HKA := Lib.hid hka
  have HKB := Lib.hid hkb
  have hka1 : ka ≤ 20 := by omega
  have hka2 : ka ≤ na := by omega
  clear hka hkb
  go_enter Try.func3, Try.ntmps3
  go_wp2_with fail
  refine NW.out.mono ?_
  rintro e w1 ⟨g, rfl, hg, hd, xr⟩
  have K := Lib.hid (show Kp w g zeroC w1 from ⟨hd, xr, hg⟩)
  clear NW hg hd xr
  go_wp2_with fail
  go_loopw [8] (fun i wr => ∃ (k : Nat), k ≤ ka ∧ i = .int .i64 k ∧ Hid (Kp w g (foldP zeroC ((ctA la).take k)) wr)) (fun i _ => ka - (intOf i).toNat)
  case atStart => exact ⟨0, by omega, rfl, K⟩
  case round =>
    clear K
    obtain ⟨k, hk, rfl, K⟩ := hrel
    by_cases hlt : k < ka
    · obtain ⟨a9, o9, e, ha9, hc⟩ := (HA.out.ext K.out.bel).read (by show 0 < la.length; rw [← HNA.out]; omega)
      simp only at e
      subst e
      obtain ⟨⟨xn, p⟩, hxk⟩ : ∃ x, la[k]? = some x := ⟨_, List.getElem?_eq_getElem (by rw [← HNA.out]; omega)⟩
      obtain ⟨h1, h2, h3, h4, h5⟩ := hc k _ hxk
      have TK := Lib.hid (ctA_take la k _ hxk)
      have C1 := Lib.hid h1
      have PI := Lib.hid h3
      have HA9 := Lib.hid ha9
      have WI := Lib.hid (fun W => within_any xn 9 (by decide) (by decide) h5 W)
      obtain ⟨pa, pn, pc, hpv⟩ : ∃ (pa : Option Addr) (pn pc : Nat), pa = p.ad ∧ pn = p.l.length ∧ pc = p.cap := ⟨_, _, _, rfl, rfl, rfl⟩
      obtain ⟨mn, hmn⟩ : ∃ mn, mn = (p.l.take 20).length := ⟨_, rfl⟩
      have HPV := Lib.hid (show p.V = .slice pa pn pc by rw [hpv.1, hpv.2.1, hpv.2.2]; rfl)
      have HCV := Lib.hid (show (Sm.Pt.mk p.ad p.cap (p.l.take 20)).V = .slice pa mn pc by rw [hpv.1, hpv.2.2, hmn]; rfl)
      have CU := Lib.hid (fun W (hi : p.In W W.heap.size) => (show Calls Try.prog 16 #[.slice pa pn pc, .int .i64 20] W fun e w' => e = .returned (.slice pa mn pc) ∧ W = w' by
        have h := cut_any p 20 (by decide) (by decide) h4 W hi
        rw [HPV.out, HCV.out] at h; exact h))
      have C3 := Lib.hid (show wr.cell? ⟨a9, o9 + k * 4 + 3, none⟩ = some (.slice pa pn pc) by rw [← HPV.out]; exact h2)
      have PG := Lib.hid (fun W (hk : DK W g (foldP zeroC ((ctA la).take k))) (hi : p.In W W.heap.size) => (show Calls Try.prog 14 #[.pointer (some ⟨g, 0, none⟩), .int .i64 (witI xn 9), .slice pa mn pc] W (MdPostB g (foldP zeroC ((ctA la).take (k + 1))) true W) by
        have hp : (foldP zeroC ((ctA la).take k)).pend = (((ctA la).take k).length : Nat) := by rw [fold_pend]; show (0 : Int) + _ = _; omega
        have hl : ((ctA la).take k).length ≤ k := List.length_take_le _ _
        have h := put_go g (witI xn 9).toNat (wit9 xn).1 ⟨p.ad, p.cap, p.l.take 20⟩ (by show (p.l.take 20).length ≤ 8192; simp; omega) _ (by rw [hp]; omega) (by rw [hp]; omega) W hk (bcut_in hi 20)
        rw [(wit9 xn).2, HCV.out] at h
        rw [TK.out, foldP_snoc]
        exact h))
      have Z0 := Lib.hid (show (0 : Int) ≤ (k : Int) by omega)
      have Z1 := Lib.hid (show (k : Int) < (na : Int) by omega)
      have z1 := Z1.out
      have z2 : (k : Int) < 20 := by omega
      clear hc hxk h1 h2 h3 h4 h5 hpv hmn ha9
      go_wp2_with fail
      obtain ⟨T, hT⟩ : ∃ T : List Ar, T = [.is (.pointer (some ⟨g, 0, none⟩)), .is (.slice (some ⟨a9, o9, none⟩) na capa), .is (.int .i64 k), .is (.pointer (some ⟨a9, o9 + k * 4, none⟩)), .is (.pointer (some ⟨a9, o9 + k * 4 + 1, none⟩)), .is (.int .i64 xn), .is (.int .i64 (witI xn 9)), .is (.slice (some ⟨a9, o9, none⟩) na capa), .is (.int .i64 k), .is (.pointer (some ⟨a9, o9 + k * 4, none⟩)), .is (.pointer (some ⟨a9, o9 + k * 4 + 3, none⟩)), .is (.slice pa pn pc), .is (.slice pa mn pc)] := ⟨_, rfl⟩
      refine wp_region_flow 13 (arPhi T) (by kernel_rfl) rfl (by kernel_rfl) (by kernel_rfl) (by kernel_rfl) (arPhi_stable T) (fitB_spec (by kernel_rfl)) ?_ ?_
      · intro i o hi ho
        have hi' : i = 0 ∨ i = 1 ∨ i = 2 ∨ i = 3 ∨ i = 4 ∨ i = 5 ∨ i = 6 ∨ i = 7 ∨ i = 8 ∨ i = 9 ∨ i = 10 ∨ i = 11 ∨ i = 12 := by omega
        clear hi
        rcases hi' with rfl | rfl | rfl | rfl | rfl | rfl | rfl | rfl | rfl | rfl | rfl | rfl | rfl
        all_goals (simp only [List.getElem?_toArray, List.getElem?_cons_zero, List.getElem?_cons_succ, Option.some.injEq] at ho; subst ho; intro a w2 hx hsz hdep hout)
        · rw [if_pos (by rfl)]
          intro K hK
          have q7 := hout 7 (outB_spec (by kernel_rfl))
          exact wp_mv _ rfl (hK _ _ (Ex.refl _) (by rw [hT]; exact q7))
        · rw [if_pos (by rfl)]
          intro K hK
          have q0 := hout 0 (outB_spec (by kernel_rfl))
          exact wp_mv _ rfl (hK _ _ (Ex.refl _) (by rw [hT]; exact q0))
        · rw [if_pos (by rfl)]
          intro K hK
          have q8 := hout 8 (outB_spec (by kernel_rfl))
          exact wp_mv _ rfl (hK _ _ (Ex.refl _) (by rw [hT]; exact q8))
        · rw [if_pos (by rfl)]
          intro K hK
          obtain ⟨v33, h33, k33⟩ := hdep ⟨1, .data⟩ (by simp) rfl _ rfl
          have q33 := k33 _ rfl
          clear k33
          rw [hT] at h33
          obtain rfl : v33 = .slice (some ⟨a9, o9, none⟩) na capa := h33
          obtain ⟨v34, h34, k34⟩ := hdep ⟨2, .data⟩ (by simp) rfl _ rfl
          have q34 := k34 _ rfl
          clear k34
          rw [hT] at h34
          obtain rfl : v34 = .int .i64 k := h34
          rw [Array.getD_eq_getD_getElem?] at q33
          rw [Array.getD_eq_getD_getElem?] at q34
          clear hsz hdep hout
          have z0 := Z0.out
          have z1 := Z1.out
          go_simp
          exact hK _ _ (Ex.refl _) (by rw [hT]; rfl)
        · rw [if_pos (by rfl)]
          intro K hK
          obtain ⟨v35, h35, k35⟩ := hdep ⟨3, .data⟩ (by simp) rfl _ rfl
          have q35 := k35 _ rfl
          clear k35
          rw [hT] at h35
          obtain rfl : v35 = .pointer (some ⟨a9, o9 + k * 4, none⟩) := h35
          rw [Array.getD_eq_getD_getElem?] at q35
          clear hsz hdep hout
          have z0 := Z0.out
          have z1 := Z1.out
          go_simp
          exact hK _ _ (Ex.refl _) (by rw [hT]; rfl)
        · rw [if_pos (by rfl)]
          intro K hK
          obtain ⟨v36, h36, k36⟩ := hdep ⟨4, .data⟩ (by simp) rfl _ rfl
          have q36 := k36 _ rfl
          clear k36
          rw [hT] at h36
          obtain rfl : v36 = .pointer (some ⟨a9, o9 + k * 4 + 1, none⟩) := h36
          have f1 : w2.cell? ⟨a9, o9 + k * 4 + 1, none⟩ = some (.int .i64 xn) := ((Ex.trans (show Ex wr wr.drew from (Below.refl _ _).drew) hx).cell (p := ⟨a9, o9 + k * 4 + 1, none⟩) HA9.out).trans C1.out
          rw [Array.getD_eq_getD_getElem?] at q36
          clear hsz hdep hout
          go_simp
          exact hK _ _ (Ex.refl _) (by rw [hT]; rfl)
        · rw [if_pos (by rfl)]
          intro K hK
          obtain ⟨v37, h37, k37⟩ := hdep ⟨5, .data⟩ (by simp) rfl _ rfl
          have q37 := k37 _ rfl
          clear k37
          rw [hT] at h37
          obtain rfl : v37 = .int .i64 xn := h37
          rw [Array.getD_eq_getD_getElem?] at q37
          have cm := Lib.hid (WI.out w2)
          clear hsz hdep hout
          go_simp
          refine cm.out.mono ?_
          rintro e w3 ⟨rfl, rfl⟩
          exact hK _ _ (Ex.refl _) (by rw [hT]; rfl)
        · rw [if_pos (by rfl)]
          intro K hK
          have q0 := hout 0 (outB_spec (by kernel_rfl))
          exact wp_mv _ rfl (hK _ _ (Ex.refl _) (by rw [hT]; exact q0))
        · rw [if_pos (by rfl)]
          intro K hK
          have q8 := hout 8 (outB_spec (by kernel_rfl))
          exact wp_mv _ rfl (hK _ _ (Ex.refl _) (by rw [hT]; exact q8))
        · rw [if_pos (by rfl)]
          intro K hK
          obtain ⟨v39, h39, k39⟩ := hdep ⟨7, .data⟩ (by simp) rfl _ rfl
          have q39 := k39 _ rfl
          clear k39
          rw [hT] at h39
          obtain rfl : v39 = .slice (some ⟨a9, o9, none⟩) na capa := h39
          obtain ⟨v40, h40, k40⟩ := hdep ⟨8, .data⟩ (by simp) rfl _ rfl
          have q40 := k40 _ rfl
          clear k40
          rw [hT] at h40
          obtain rfl : v40 = .int .i64 k := h40
          rw [Array.getD_eq_getD_getElem?] at q39
          rw [Array.getD_eq_getD_getElem?] at q40
          clear hsz hdep hout
          have z0 := Z0.out
          have z1 := Z1.out
          go_simp
          exact hK _ _ (Ex.refl _) (by rw [hT]; rfl)
        · rw [if_pos (by rfl)]
          intro K hK
          obtain ⟨v41, h41, k41⟩ := hdep ⟨9, .data⟩ (by simp) rfl _ rfl
          have q41 := k41 _ rfl
          clear k41
          rw [hT] at h41
          obtain rfl : v41 = .pointer (some ⟨a9, o9 + k * 4, none⟩) := h41
          rw [Array.getD_eq_getD_getElem?] at q41
          clear hsz hdep hout
          have z0 := Z0.out
          have z1 := Z1.out
          go_simp
          exact hK _ _ (Ex.refl _) (by rw [hT]; rfl)
        · rw [if_pos (by rfl)]
          intro K hK
          obtain ⟨v42, h42, k42⟩ := hdep ⟨10, .data⟩ (by simp) rfl _ rfl
          have q42 := k42 _ rfl
          clear k42
          rw [hT] at h42
          obtain rfl : v42 = .pointer (some ⟨a9, o9 + k * 4 + 3, none⟩) := h42
          have f1 : w2.cell? ⟨a9, o9 + k * 4 + 3, none⟩ = some (.slice pa pn pc) := ((Ex.trans (show Ex wr wr.drew from (Below.refl _ _).drew) hx).cell (p := ⟨a9, o9 + k * 4 + 3, none⟩) HA9.out).trans C3.out
          rw [Array.getD_eq_getD_getElem?] at q42
          clear hsz hdep hout
          go_simp
          exact hK _ _ (Ex.refl _) (by rw [hT]; rfl)
        · rw [if_pos (by rfl)]
          intro K hK
          obtain ⟨v43, h43, k43⟩ := hdep ⟨11, .data⟩ (by simp) rfl _ rfl
          have q43 := k43 _ rfl
          clear k43
          rw [hT] at h43
          obtain rfl : v43 = .slice pa pn pc := h43
          rw [Array.getD_eq_getD_getElem?] at q43
          have cm := Lib.hid (CU.out w2 (Sm.Pt.In.ext PI.out (Ex.trans (show Ex wr wr.drew from (Below.refl _ _).drew) hx)))
          clear hsz hdep hout
          go_simp
          refine cm.out.mono ?_
          rintro e w3 ⟨rfl, rfl⟩
          exact hK _ _ (Ex.refl _) (by rw [hT]; rfl)
      · intro a w2 hx hdef hsz hdone hout
        obtain ⟨v32, h32, k32⟩ := hdone 0 _ (by omega) rfl
        have q32 := k32 _ rfl
        clear k32
        rw [hT] at h32
        obtain rfl : v32 = .pointer (some ⟨g, 0, none⟩) := h32
        obtain ⟨v38, h38, k38⟩ := hdone 6 _ (by omega) rfl
        have q38 := k38 _ rfl
        clear k38
        rw [hT] at h38
        obtain rfl : v38 = .int .i64 (witI xn 9) := h38
        obtain ⟨v44, h44, k44⟩ := hdone 12 _ (by omega) rfl
        have q44 := k44 _ rfl
        clear k44
        rw [hT] at h44
        obtain rfl : v44 = .slice pa mn pc := h44
        clear hdone hT
        have hA := arr_range a.tmps 123 hsz
        change a.tmps = #[a.tmps[0]?.getD undef, a.tmps[1]?.getD undef, a.tmps[2]?.getD undef, a.tmps[3]?.getD undef, a.tmps[4]?.getD undef, a.tmps[5]?.getD undef, a.tmps[6]?.getD undef, a.tmps[7]?.getD undef, a.tmps[8]?.getD undef, a.tmps[9]?.getD undef, a.tmps[10]?.getD undef, a.tmps[11]?.getD undef, a.tmps[12]?.getD undef, a.tmps[13]?.getD undef, a.tmps[14]?.getD undef, a.tmps[15]?.getD undef, a.tmps[16]?.getD undef, a.tmps[17]?.getD undef, a.tmps[18]?.getD undef, a.tmps[19]?.getD undef, a.tmps[20]?.getD undef, a.tmps[21]?.getD undef, a.tmps[22]?.getD undef, a.tmps[23]?.getD undef, a.tmps[24]?.getD undef, a.tmps[25]?.getD undef, a.tmps[26]?.getD undef, a.tmps[27]?.getD undef, a.tmps[28]?.getD undef, a.tmps[29]?.getD undef, a.tmps[30]?.getD undef, a.tmps[31]?.getD undef, a.tmps[32]?.getD undef, a.tmps[33]?.getD undef, a.tmps[34]?.getD undef, a.tmps[35]?.getD undef, a.tmps[36]?.getD undef, a.tmps[37]?.getD undef, a.tmps[38]?.getD undef, a.tmps[39]?.getD undef, a.tmps[40]?.getD undef, a.tmps[41]?.getD undef, a.tmps[42]?.getD undef, a.tmps[43]?.getD undef, a.tmps[44]?.getD undef, a.tmps[45]?.getD undef, a.tmps[46]?.getD undef, a.tmps[47]?.getD undef, a.tmps[48]?.getD undef, a.tmps[49]?.getD undef, a.tmps[50]?.getD undef, a.tmps[51]?.getD undef, a.tmps[52]?.getD undef, a.tmps[53]?.getD undef, a.tmps[54]?.getD undef, a.tmps[55]?.getD undef, a.tmps[56]?.getD undef, a.tmps[57]?.getD undef, a.tmps[58]?.getD undef, a.tmps[59]?.getD undef, a.tmps[60]?.getD undef, a.tmps[61]?.getD undef, a.tmps[62]?.getD undef, a.tmps[63]?.getD undef, a.tmps[64]?.getD undef, a.tmps[65]?.getD undef, a.tmps[66]?.getD undef, a.tmps[67]?.getD undef, a.tmps[68]?.getD undef, a.tmps[69]?.getD undef, a.tmps[70]?.getD undef, a.tmps[71]?.getD undef, a.tmps[72]?.getD undef, a.tmps[73]?.getD undef, a.tmps[74]?.getD undef, a.tmps[75]?.getD undef, a.tmps[76]?.getD undef, a.tmps[77]?.getD undef, a.tmps[78]?.getD undef, a.tmps[79]?.getD undef, a.tmps[80]?.getD undef, a.tmps[81]?.getD undef, a.tmps[82]?.getD undef, a.tmps[83]?.getD undef, a.tmps[84]?.getD undef, a.tmps[85]?.getD undef, a.tmps[86]?.getD undef, a.tmps[87]?.getD undef, a.tmps[88]?.getD undef, a.tmps[89]?.getD undef, a.tmps[90]?.getD undef, a.tmps[91]?.getD undef, a.tmps[92]?.getD undef, a.tmps[93]?.getD undef, a.tmps[94]?.getD undef, a.tmps[95]?.getD undef, a.tmps[96]?.getD undef, a.tmps[97]?.getD undef, a.tmps[98]?.getD undef, a.tmps[99]?.getD undef, a.tmps[100]?.getD undef, a.tmps[101]?.getD undef, a.tmps[102]?.getD undef, a.tmps[103]?.getD undef, a.tmps[104]?.getD undef, a.tmps[105]?.getD undef, a.tmps[106]?.getD undef, a.tmps[107]?.getD undef, a.tmps[108]?.getD undef, a.tmps[109]?.getD undef, a.tmps[110]?.getD undef, a.tmps[111]?.getD undef, a.tmps[112]?.getD undef, a.tmps[113]?.getD undef, a.tmps[114]?.getD undef, a.tmps[115]?.getD undef, a.tmps[116]?.getD undef, a.tmps[117]?.getD undef, a.tmps[118]?.getD undef, a.tmps[119]?.getD undef, a.tmps[120]?.getD undef, a.tmps[121]?.getD undef, a.tmps[122]?.getD undef] at hA
        have e0 := hout 0 (fun i o _ h => outB_spec (by kernel_rfl) i o h)
        have e1 := hout 1 (fun i o _ h => outB_spec (by kernel_rfl) i o h)
        have e2 := hout 2 (fun i o _ h => outB_spec (by kernel_rfl) i o h)
        have e3 := hout 3 (fun i o _ h => outB_spec (by kernel_rfl) i o h)
        have e4 := hout 4 (fun i o _ h => outB_spec (by kernel_rfl) i o h)
        have e5 := hout 5 (fun i o _ h => outB_spec (by kernel_rfl) i o h)
        have e6 := hout 6 (fun i o _ h => outB_spec (by kernel_rfl) i o h)
        have e7 := hout 7 (fun i o _ h => outB_spec (by kernel_rfl) i o h)
        have e8 := hout 8 (fun i o _ h => outB_spec (by kernel_rfl) i o h)
        have e9 := hout 9 (fun i o _ h => outB_spec (by kernel_rfl) i o h)
        have e10 := hout 10 (fun i o _ h => outB_spec (by kernel_rfl) i o h)
        have e11 := hout 11 (fun i o _ h => outB_spec (by kernel_rfl) i o h)
        have e12 := hout 12 (fun i o _ h => outB_spec (by kernel_rfl) i o h)
        have e13 := hout 13 (fun i o _ h => outB_spec (by kernel_rfl) i o h)
        have e14 := hout 14 (fun i o _ h => outB_spec (by kernel_rfl) i o h)
        have e15 := hout 15 (fun i o _ h => outB_spec (by kernel_rfl) i o h)
        have e16 := hout 16 (fun i o _ h => outB_spec (by kernel_rfl) i o h)
        have e17 := hout 17 (fun i o _ h => outB_spec (by kernel_rfl) i o h)
        have e18 := hout 18 (fun i o _ h => outB_spec (by kernel_rfl) i o h)
        have e19 := hout 19 (fun i o _ h => outB_spec (by kernel_rfl) i o h)
        have e20 := hout 20 (fun i o _ h => outB_spec (by kernel_rfl) i o h)
        have e21 := hout 21 (fun i o _ h => outB_spec (by kernel_rfl) i o h)
        have e22 := hout 22 (fun i o _ h => outB_spec (by kernel_rfl) i o h)
        have e23 := hout 23 (fun i o _ h => outB_spec (by kernel_rfl) i o h)
        have e24 := hout 24 (fun i o _ h => outB_spec (by kernel_rfl) i o h)
        have e25 := hout 25 (fun i o _ h => outB_spec (by kernel_rfl) i o h)
        have e26 := hout 26 (fun i o _ h => outB_spec (by kernel_rfl) i o h)
        have e27 := hout 27 (fun i o _ h => outB_spec (by kernel_rfl) i o h)
        have e28 := hout 28 (fun i o _ h => outB_spec (by kernel_rfl) i o h)
        have e29 := hout 29 (fun i o _ h => outB_spec (by kernel_rfl) i o h)
        have e30 := hout 30 (fun i o _ h => outB_spec (by kernel_rfl) i o h)
        have e31 := hout 31 (fun i o _ h => outB_spec (by kernel_rfl) i o h)
        have e46 := hout 46 (fun i o _ h => outB_spec (by kernel_rfl) i o h)
        have e47 := hout 47 (fun i o _ h => outB_spec (by kernel_rfl) i o h)
        have e48 := hout 48 (fun i o _ h => outB_spec (by kernel_rfl) i o h)
        have e49 := hout 49 (fun i o _ h => outB_spec (by kernel_rfl) i o h)
        have e50 := hout 50 (fun i o _ h => outB_spec (by kernel_rfl) i o h)
        have e51 := hout 51 (fun i o _ h => outB_spec (by kernel_rfl) i o h)
        have e52 := hout 52 (fun i o _ h => outB_spec (by kernel_rfl) i o h)
        have e53 := hout 53 (fun i o _ h => outB_spec (by kernel_rfl) i o h)
        have e54 := hout 54 (fun i o _ h => outB_spec (by kernel_rfl) i o h)
        have e55 := hout 55 (fun i o _ h => outB_spec (by kernel_rfl) i o h)
        have e56 := hout 56 (fun i o _ h => outB_spec (by kernel_rfl) i o h)
        have e57 := hout 57 (fun i o _ h => outB_spec (by kernel_rfl) i o h)
        have e58 := hout 58 (fun i o _ h => outB_spec (by kernel_rfl) i o h)
        have e59 := hout 59 (fun i o _ h => outB_spec (by kernel_rfl) i o h)
        have e60 := hout 60 (fun i o _ h => outB_spec (by kernel_rfl) i o h)
        have e61 := hout 61 (fun i o _ h => outB_spec (by kernel_rfl) i o h)
        have e62 := hout 62 (fun i o _ h => outB_spec (by kernel_rfl) i o h)
        have e63 := hout 63 (fun i o _ h => outB_spec (by kernel_rfl) i o h)
        have e64 := hout 64 (fun i o _ h => outB_spec (by kernel_rfl) i o h)
        have e65 := hout 65 (fun i o _ h => outB_spec (by kernel_rfl) i o h)
        have e66 := hout 66 (fun i o _ h => outB_spec (by kernel_rfl) i o h)
        have e67 := hout 67 (fun i o _ h => outB_spec (by kernel_rfl) i o h)
        have e68 := hout 68 (fun i o _ h => outB_spec (by kernel_rfl) i o h)
        have e69 := hout 69 (fun i o _ h => outB_spec (by kernel_rfl) i o h)
        have e70 := hout 70 (fun i o _ h => outB_spec (by kernel_rfl) i o h)
        have e71 := hout 71 (fun i o _ h => outB_spec (by kernel_rfl) i o h)
        have e72 := hout 72 (fun i o _ h => outB_spec (by kernel_rfl) i o h)
        have e73 := hout 73 (fun i o _ h => outB_spec (by kernel_rfl) i o h)
        have e74 := hout 74 (fun i o _ h => outB_spec (by kernel_rfl) i o h)
        have e75 := hout 75 (fun i o _ h => outB_spec (by kernel_rfl) i o h)
        have e76 := hout 76 (fun i o _ h => outB_spec (by kernel_rfl) i o h)
        have e77 := hout 77 (fun i o _ h => outB_spec (by kernel_rfl) i o h)
        have e78 := hout 78 (fun i o _ h => outB_spec (by kernel_rfl) i o h)
        have e79 := hout 79 (fun i o _ h => outB_spec (by kernel_rfl) i o h)
        have e80 := hout 80 (fun i o _ h => outB_spec (by kernel_rfl) i o h)
        have e81 := hout 81 (fun i o _ h => outB_spec (by kernel_rfl) i o h)
        have e82 := hout 82 (fun i o _ h => outB_spec (by kernel_rfl) i o h)
        have e83 := hout 83 (fun i o _ h => outB_spec (by kernel_rfl) i o h)
        have e84 := hout 84 (fun i o _ h => outB_spec (by kernel_rfl) i o h)
        have e85 := hout 85 (fun i o _ h => outB_spec (by kernel_rfl) i o h)
        have e86 := hout 86 (fun i o _ h => outB_spec (by kernel_rfl) i o h)
        have e87 := hout 87 (fun i o _ h => outB_spec (by kernel_rfl) i o h)
        have e88 := hout 88 (fun i o _ h => outB_spec (by kernel_rfl) i o h)
        have e89 := hout 89 (fun i o _ h => outB_spec (by kernel_rfl) i o h)
        have e90 := hout 90 (fun i o _ h => outB_spec (by kernel_rfl) i o h)
        have e91 := hout 91 (fun i o _ h => outB_spec (by kernel_rfl) i o h)
        have e92 := hout 92 (fun i o _ h => outB_spec (by kernel_rfl) i o h)
        have e93 := hout 93 (fun i o _ h => outB_spec (by kernel_rfl) i o h)
        have e94 := hout 94 (fun i o _ h => outB_spec (by kernel_rfl) i o h)
        have e95 := hout 95 (fun i o _ h => outB_spec (by kernel_rfl) i o h)
        have e96 := hout 96 (fun i o _ h => outB_spec (by kernel_rfl) i o h)
        have e97 := hout 97 (fun i o _ h => outB_spec (by kernel_rfl) i o h)
        have e98 := hout 98 (fun i o _ h => outB_spec (by kernel_rfl) i o h)
        have e99 := hout 99 (fun i o _ h => outB_spec (by kernel_rfl) i o h)
        have e100 := hout 100 (fun i o _ h => outB_spec (by kernel_rfl) i o h)
        have e101 := hout 101 (fun i o _ h => outB_spec (by kernel_rfl) i o h)
        have e102 := hout 102 (fun i o _ h => outB_spec (by kernel_rfl) i o h)
        have e103 := hout 103 (fun i o _ h => outB_spec (by kernel_rfl) i o h)
        have e104 := hout 104 (fun i o _ h => outB_spec (by kernel_rfl) i o h)
        have e105 := hout 105 (fun i o _ h => outB_spec (by kernel_rfl) i o h)
        have e106 := hout 106 (fun i o _ h => outB_spec (by kernel_rfl) i o h)
        have e107 := hout 107 (fun i o _ h => outB_spec (by kernel_rfl) i o h)
        have e108 := hout 108 (fun i o _ h => outB_spec (by kernel_rfl) i o h)
        have e109 := hout 109 (fun i o _ h => outB_spec (by kernel_rfl) i o h)
        have e110 := hout 110 (fun i o _ h => outB_spec (by kernel_rfl) i o h)
        have e111 := hout 111 (fun i o _ h => outB_spec (by kernel_rfl) i o h)
        have e112 := hout 112 (fun i o _ h => outB_spec (by kernel_rfl) i o h)
        have e113 := hout 113 (fun i o _ h => outB_spec (by kernel_rfl) i o h)
        have e114 := hout 114 (fun i o _ h => outB_spec (by kernel_rfl) i o h)
        have e115 := hout 115 (fun i o _ h => outB_spec (by kernel_rfl) i o h)
        have e116 := hout 116 (fun i o _ h => outB_spec (by kernel_rfl) i o h)
        have e117 := hout 117 (fun i o _ h => outB_spec (by kernel_rfl) i o h)
        have e118 := hout 118 (fun i o _ h => outB_spec (by kernel_rfl) i o h)
        have e119 := hout 119 (fun i o _ h => outB_spec (by kernel_rfl) i o h)
        have e120 := hout 120 (fun i o _ h => outB_spec (by kernel_rfl) i o h)
        have e121 := hout 121 (fun i o _ h => outB_spec (by kernel_rfl) i o h)
        have e122 := hout 122 (fun i o _ h => outB_spec (by kernel_rfl) i o h)
        simp only [Array.getD_eq_getD_getElem?, List.getElem?_toArray, List.getElem?_cons_zero, List.getElem?_cons_succ, Option.getD_some] at e0 e1 e2 e3 e4 e5 e6 e7 e8 e9 e10 e11 e12 e13 e14 e15 e16 e17 e18 e19 e20 e21 e22 e23 e24 e25 e26 e27 e28 e29 e30 e31 e46 e47 e48 e49 e50 e51 e52 e53 e54 e55 e56 e57 e58 e59 e60 e61 e62 e63 e64 e65 e66 e67 e68 e69 e70 e71 e72 e73 e74 e75 e76 e77 e78 e79 e80 e81 e82 e83 e84 e85 e86 e87 e88 e89 e90 e91 e92 e93 e94 e95 e96 e97 e98 e99 e100 e101 e102 e103 e104 e105 e106 e107 e108 e109 e110 e111 e112 e113 e114 e115 e116 e117 e118 e119 e120 e121 e122
        rw [e0, e1, e2, e3, e4, e5, e6, e7, e8, e9, e10, e11, e12, e13, e14, e15, e16, e17, e18, e19, e20, e21, e22, e23, e24, e25, e26, e27, e28, e29, e30, e31, e46, e47, e48, e49, e50, e51, e52, e53, e54, e55, e56, e57, e58, e59, e60, e61, e62, e63, e64, e65, e66, e67, e68, e69, e70, e71, e72, e73, e74, e75, e76, e77, e78, e79, e80, e81, e82, e83, e84, e85, e86, e87, e88, e89, e90, e91, e92, e93, e94, e95, e96, e97, e98, e99, e100, e101, e102, e103, e104, e105, e106, e107, e108, e109, e110, e111, e112, e113, e114, e115, e116, e117, e118, e119, e120, e121, e122] at hA
        clear e0 e1 e2 e3 e4 e5 e6 e7 e8 e9 e10 e11 e12 e13 e14 e15 e16 e17 e18 e19 e20 e21 e22 e23 e24 e25 e26 e27 e28 e29 e30 e31 e46 e47 e48 e49 e50 e51 e52 e53 e54 e55 e56 e57 e58 e59 e60 e61 e62 e63 e64 e65 e66 e67 e68 e69 e70 e71 e72 e73 e74 e75 e76 e77 e78 e79 e80 e81 e82 e83 e84 e85 e86 e87 e88 e89 e90 e91 e92 e93 e94 e95 e96 e97 e98 e99 e100 e101 e102 e103 e104 e105 e106 e107 e108 e109 e110 e111 e112 e113 e114 e115 e116 e117 e118 e119 e120 e121 e122 hout
        have hds2 : a.defers = [] := hdef
        have ea : a = ⟨a.tmps, a.defers⟩ := rfl
        rw [Array.getD_eq_getD_getElem?] at q32
        rw [Array.getD_eq_getD_getElem?] at q38
        rw [Array.getD_eq_getD_getElem?] at q44
        rw [hA, hds2, q32, q38, q44] at ea
        clear hA hds2 q32 q38 q44 hdef
        generalize a.tmps[33]?.getD undef = y33 at ea
        generalize a.tmps[34]?.getD undef = y34 at ea
        generalize a.tmps[35]?.getD undef = y35 at ea
        generalize a.tmps[36]?.getD undef = y36 at ea
        generalize a.tmps[37]?.getD undef = y37 at ea
        generalize a.tmps[39]?.getD undef = y39 at ea
        generalize a.tmps[40]?.getD undef = y40 at ea
        generalize a.tmps[41]?.getD undef = y41 at ea
        generalize a.tmps[42]?.getD undef = y42 at ea
        generalize a.tmps[43]?.getD undef = y43 at ea
        generalize a.tmps[45]?.getD undef = y45 at ea
        clear hsz
        subst ea
        have bx : Ex wr w2 := Ex.trans (show Ex wr wr.drew from (Below.refl _ _).drew) hx
        unfold wpOp
        simp only [List.getElem?_toArray, List.getElem?_cons_zero, List.getElem?_cons_succ]
        rw [if_pos (by rfl)]
        left
        have DK2 := Lib.hid (K.out.ext bx)
        have PI2 := Lib.hid (Sm.Pt.In.ext PI.out bx)
        have PG2 := Lib.hid (PG.out w2 DK2.out.dk PI2.out)
        clear bx hx PG CU WI C1 C3 PI HA9
        go_simp
        refine PG2.out.mono ?_
        rintro e w3 ⟨rfl, hk3, m3⟩
        have K3 := Lib.hid (DK2.out.md m3 hk3)
        clear PG2 DK2 PI2 hk3 m3 K
        go_wp2_with fail
        go_roundw
        case rel => exact ⟨k + 1, by omega, by go_num, K3⟩
        case measure => simp [intOf]; omega
    · obtain rfl : k = ka := by omega
      obtain ⟨cA, hcA⟩ : ∃ c, c = foldP zeroC ((ctA la).take k) := ⟨_, rfl⟩
      have OKA := Lib.hid (show Ok20 cA by rw [hcA]; exact Ok20.zero.fold _)
      have NLA := Lib.hid (show cA.now.length = 10 by rw [hcA, fold_len]; rfl)
      have LSA := Lib.hid (show ∃ m : Nat, m < 10 ∧ cA.lst = m by rw [hcA]; exact fold_lst _ _ 0 (by decide) rfl)
      rw [← hcA] at K
      clear hcA
      have hkk := HKA.out
      rcases (show na = k ∨ ((k : Int) < (na : Int) ∧ k = 20) by omega) with rfl | ⟨hd, rfl⟩
      all_goals
        clear hkk
        go_wp2_with fail
        have SY := Lib.hid (sync_any g cA wr K.out.dk)
        refine SY.out.mono ?_
        rintro e w2 ⟨rfl, hk2, m2⟩
        have K2 := Lib.hid (show Kp w g (syncC cA) w2 from K.out.md m2 hk2)
        clear SY K hk2 m2
        go_wp2_with fail
        have CP := Lib.hid (copy_any g (syncC cA) w2 K2.out.dk)
        refine CP.out.mono ?_
        rintro e w3 ⟨g9, rfl, hg9, hd9, x3⟩
        have K3 := Lib.hid (K2.out.ext x3)
        have GN := Lib.hid (show g9 ≠ g by
          have : g < w2.heap.size := by obtain ⟨d, hd, _⟩ := K2.out.dk; exact hd.blk.lt
          omega)
        have D9 := Lib.hid hd9
        clear CP K2 hg9 hd9 x3
        have hkb := HKB.out
        have hkb1 : kb ≤ 20 := by omega
        have hkb2 : kb ≤ nb := by omega
        clear hkb
        go_wp2_with fail
        go_loopw [10, 11, 12] (fun li yv i wr => ∃ (k : Nat) (py : Sm.Pt), k ≤ kb ∧ i = .int .i64 k ∧ li = .int .i64 (lastI ((ctA lb).take k)) ∧ yv = py.V ∧ Hid (py.l = lastY ((ctA lb).take k)) ∧ Hid (py.In wr wr.heap.size) ∧ Hid (Kp w g (foldP (syncC cA) ((ctA lb).take k)) wr) ∧ Hid (DK wr g9 (copyC (syncC cA)))) (fun _ _ i _ => kb - (intOf i).toNat)
        case atStart => exact ⟨0, nilB, by omega, rfl, rfl, rfl, Lib.hid rfl, Lib.hid (nilB_in _ _), K3, D9⟩
        case round =>
          clear K3 D9
          obtain ⟨k, py, hk, rfl, rfl, rfl, PL, PIN, K, D9⟩ := hrel
          by_cases hlt : k < kb
          · obtain ⟨b9, r9, e, ha9, hc⟩ := (HB.out.ext K.out.bel).read (by show 0 < lb.length; rw [← HNB.out]; omega)
            simp only at e
            subst e
            obtain ⟨⟨xn, p⟩, hxk⟩ : ∃ x, lb[k]? = some x := ⟨_, List.getElem?_eq_getElem (by rw [← HNB.out]; omega)⟩
            obtain ⟨h1, h2, h3, h4, h5⟩ := hc k _ hxk
            have TK := Lib.hid (ctA_take lb k _ hxk)
            have C1 := Lib.hid h1
            have PI := Lib.hid h3
            have HA9 := Lib.hid ha9
            have WI := Lib.hid (fun W => within_any xn 9 (by decide) (by decide) h5 W)
            obtain ⟨pa, pn, pc, hpv⟩ : ∃ (pa : Option Addr) (pn pc : Nat), pa = p.ad ∧ pn = p.l.length ∧ pc = p.cap := ⟨_, _, _, rfl, rfl, rfl⟩
            obtain ⟨mn, hmn⟩ : ∃ mn, mn = (p.l.take 20).length := ⟨_, rfl⟩
            have HPV := Lib.hid (show p.V = .slice pa pn pc by rw [hpv.1, hpv.2.1, hpv.2.2]; rfl)
            have HCV := Lib.hid (show (Sm.Pt.mk p.ad p.cap (p.l.take 20)).V = .slice pa mn pc by rw [hpv.1, hpv.2.2, hmn]; rfl)
            have CU := Lib.hid (fun W (hi : p.In W W.heap.size) => (show Calls Try.prog 16 #[.slice pa pn pc, .int .i64 20] W fun e w' => e = .returned (.slice pa mn pc) ∧ W = w' by
              have h := cut_any p 20 (by decide) (by decide) h4 W hi
              rw [HPV.out, HCV.out] at h; exact h))
            have C3 := Lib.hid (show wr.cell? ⟨b9, r9 + k * 4 + 3, none⟩ = some (.slice pa pn pc) by rw [← HPV.out]; exact h2)
            have PG := Lib.hid (fun W (hk : DK W g (foldP (syncC cA) ((ctA lb).take k))) (hi : p.In W W.heap.size) => (show Calls Try.prog 14 #[.pointer (some ⟨g, 0, none⟩), .int .i64 (witI xn 9), .slice pa mn pc] W (MdPostB g (foldP (syncC cA) ((ctA lb).take (k + 1))) true W) by
              have hp : (foldP (syncC cA) ((ctA lb).take k)).pend = (((ctA lb).take k).length : Nat) := by rw [fold_pend]; show (0 : Int) + _ = _; omega
              have hl : ((ctA lb).take k).length ≤ k := List.length_take_le _ _
              have h := put_go g (witI xn 9).toNat (wit9 xn).1 ⟨p.ad, p.cap, p.l.take 20⟩ (by show (p.l.take 20).length ≤ 8192; simp; omega) _ (by rw [hp]; omega) (by rw [hp]; omega) W hk (bcut_in hi 20)
              rw [(wit9 xn).2, HCV.out] at h
              rw [TK.out, foldP_snoc]
              exact h))
            have Z0 := Lib.hid (show (0 : Int) ≤ (k : Int) by omega)
            have Z1 := Lib.hid (show (k : Int) < (nb : Int) by omega)
            have z1 := Z1.out
            have z2 : (k : Int) < 20 := by omega
            clear hc hxk h1 h2 h3 h4 h5 hpv hmn ha9
            go_wp2_with fail
            obtain ⟨T, hT⟩ : ∃ T : List (Option Value), T = [some (.slice (some ⟨b9, r9, none⟩) nb capb), some (.int .i64 k), some (.pointer (some ⟨b9, r9 + k * 4, none⟩)), some (.pointer (some ⟨b9, r9 + k * 4 + 1, none⟩)), some (.int .i64 xn), some (.int .i64 (witI xn 9)), some (.slice (some ⟨b9, r9, none⟩) nb capb), some (.int .i64 k), some (.pointer (some ⟨b9, r9 + k * 4, none⟩)), some (.pointer (some ⟨b9, r9 + k * 4 + 3, none⟩)), some (.slice pa pn pc), some (.slice pa mn pc), some (.int .i64 (witI xn 9)), some (.slice pa mn pc)] := ⟨_, rfl⟩
            refine wp_region_gen (JL wr T 1000 1001 0 #[] #[]) (by kernel_rfl) (by kernel_rfl) (by kernel_rfl) (fitB_spec (by kernel_rfl)) (fun listed f h => JL.start _ listed f h) ?_ ?_
            · intro i o ho
              have hi : i < 14 := (Array.getElem?_eq_some_iff.1 ho).1
              have hi' : i = 0 ∨ i = 1 ∨ i = 2 ∨ i = 3 ∨ i = 4 ∨ i = 5 ∨ i = 6 ∨ i = 7 ∨ i = 8 ∨ i = 9 ∨ i = 10 ∨ i = 11 ∨ i = 12 ∨ i = 13 := by omega
              clear hi
              rcases hi' with rfl | rfl | rfl | rfl | rfl | rfl | rfl | rfl | rfl | rfl | rfl | rfl | rfl | rfl
              all_goals (simp only [List.getElem?_toArray, List.getElem?_cons_zero, List.getElem?_cons_succ, Option.some.injEq] at ho; subst ho; intro listed f a w2 hJ hsz hls hun hdep hout hlat)
              · rw [if_pos (by rfl)]
                intro K hK
                have q1 := hout 1 (outB_spec (by kernel_rfl))
                refine wp_mv _ rfl (hK _ _ ?_)
                rw [show a.eval (.tmp 1) = .slice (some ⟨b9, r9, none⟩) nb capb from q1]
                exact hJ.plain (by decide) (by decide) (Ex.refl _) (fun x hx => by rw [hT] at hx; first | exact Option.some.inj hx | simpa using hx)
              · rw [if_pos (by rfl)]
                intro K hK
                have q12 := hout 12 (outB_spec (by kernel_rfl))
                refine wp_mv _ rfl (hK _ _ ?_)
                rw [show a.eval (.tmp 12) = .int .i64 k from q12]
                exact hJ.plain (by decide) (by decide) (Ex.refl _) (fun x hx => by rw [hT] at hx; first | exact Option.some.inj hx | simpa using hx)
              · rw [if_pos (by rfl)]
                intro K hK
                have q60 := (hdep ⟨0, .data⟩ (by simp) rfl).2 _ rfl _ rfl
                rw [show f 0 = _ from hJ.vals 0 (hdep ⟨0, .data⟩ (by simp) rfl).1 (.slice (some ⟨b9, r9, none⟩) nb capb) (by rw [hT]; rfl)] at q60
                have q61 := (hdep ⟨1, .data⟩ (by simp) rfl).2 _ rfl _ rfl
                rw [show f 1 = _ from hJ.vals 1 (hdep ⟨1, .data⟩ (by simp) rfl).1 (.int .i64 k) (by rw [hT]; rfl)] at q61
                rw [Array.getD_eq_getD_getElem?] at q60
                rw [Array.getD_eq_getD_getElem?] at q61
                clear hsz hdep hout hlat
                have z0 := Z0.out
                have z1 := Z1.out
                go_simp
                exact hK _ _ (hJ.plain (by decide) (by decide) (Ex.refl _) (fun x hx => by rw [hT] at hx; first | exact Option.some.inj hx | simpa using hx))
              · rw [if_pos (by rfl)]
                intro K hK
                have q62 := (hdep ⟨2, .data⟩ (by simp) rfl).2 _ rfl _ rfl
                rw [show f 2 = _ from hJ.vals 2 (hdep ⟨2, .data⟩ (by simp) rfl).1 (.pointer (some ⟨b9, r9 + k * 4, none⟩)) (by rw [hT]; rfl)] at q62
                rw [Array.getD_eq_getD_getElem?] at q62
                clear hsz hdep hout hlat
                have z0 := Z0.out
                have z1 := Z1.out
                go_simp
                exact hK _ _ (hJ.plain (by decide) (by decide) (Ex.refl _) (fun x hx => by rw [hT] at hx; first | exact Option.some.inj hx | simpa using hx))
              · rw [if_pos (by rfl)]
                intro K hK
                have q63 := (hdep ⟨3, .data⟩ (by simp) rfl).2 _ rfl _ rfl
                rw [show f 3 = _ from hJ.vals 3 (hdep ⟨3, .data⟩ (by simp) rfl).1 (.pointer (some ⟨b9, r9 + k * 4 + 1, none⟩)) (by rw [hT]; rfl)] at q63
                have f1 : w2.cell? ⟨b9, r9 + k * 4 + 1, none⟩ = some (.int .i64 xn) := (hJ.ext.cell (p := ⟨b9, r9 + k * 4 + 1, none⟩) HA9.out).trans C1.out
                rw [Array.getD_eq_getD_getElem?] at q63
                clear hsz hdep hout hlat
                go_simp
                exact hK _ _ (hJ.plain (by decide) (by decide) (Ex.refl _) (fun x hx => by rw [hT] at hx; first | exact Option.some.inj hx | simpa using hx))
              · rw [if_pos (by rfl)]
                intro K hK
                have q64 := (hdep ⟨4, .data⟩ (by simp) rfl).2 _ rfl _ rfl
                rw [show f 4 = _ from hJ.vals 4 (hdep ⟨4, .data⟩ (by simp) rfl).1 (.int .i64 xn) (by rw [hT]; rfl)] at q64
                rw [Array.getD_eq_getD_getElem?] at q64
                have cm := Lib.hid (WI.out w2)
                clear hsz hdep hout hlat
                go_simp
                refine cm.out.mono ?_
                rintro e w3 ⟨rfl, rfl⟩
                exact hK _ _ (hJ.plain (by decide) (by decide) (Ex.refl _) (fun x hx => by rw [hT] at hx; first | exact Option.some.inj hx | simpa using hx))
              · rw [if_pos (by rfl)]
                intro K hK
                have q1 := hout 1 (outB_spec (by kernel_rfl))
                refine wp_mv _ rfl (hK _ _ ?_)
                rw [show a.eval (.tmp 1) = .slice (some ⟨b9, r9, none⟩) nb capb from q1]
                exact hJ.plain (by decide) (by decide) (Ex.refl _) (fun x hx => by rw [hT] at hx; first | exact Option.some.inj hx | simpa using hx)
              · rw [if_pos (by rfl)]
                intro K hK
                have q12 := hout 12 (outB_spec (by kernel_rfl))
                refine wp_mv _ rfl (hK _ _ ?_)
                rw [show a.eval (.tmp 12) = .int .i64 k from q12]
                exact hJ.plain (by decide) (by decide) (Ex.refl _) (fun x hx => by rw [hT] at hx; first | exact Option.some.inj hx | simpa using hx)
              · rw [if_pos (by rfl)]
                intro K hK
                have q66 := (hdep ⟨6, .data⟩ (by simp) rfl).2 _ rfl _ rfl
                rw [show f 6 = _ from hJ.vals 6 (hdep ⟨6, .data⟩ (by simp) rfl).1 (.slice (some ⟨b9, r9, none⟩) nb capb) (by rw [hT]; rfl)] at q66
                have q67 := (hdep ⟨7, .data⟩ (by simp) rfl).2 _ rfl _ rfl
                rw [show f 7 = _ from hJ.vals 7 (hdep ⟨7, .data⟩ (by simp) rfl).1 (.int .i64 k) (by rw [hT]; rfl)] at q67
                rw [Array.getD_eq_getD_getElem?] at q66
                rw [Array.getD_eq_getD_getElem?] at q67
                clear hsz hdep hout hlat
                have z0 := Z0.out
                have z1 := Z1.out
                go_simp
                exact hK _ _ (hJ.plain (by decide) (by decide) (Ex.refl _) (fun x hx => by rw [hT] at hx; first | exact Option.some.inj hx | simpa using hx))
              · rw [if_pos (by rfl)]
                intro K hK
                have q68 := (hdep ⟨8, .data⟩ (by simp) rfl).2 _ rfl _ rfl
                rw [show f 8 = _ from hJ.vals 8 (hdep ⟨8, .data⟩ (by simp) rfl).1 (.pointer (some ⟨b9, r9 + k * 4, none⟩)) (by rw [hT]; rfl)] at q68
                rw [Array.getD_eq_getD_getElem?] at q68
                clear hsz hdep hout hlat
                have z0 := Z0.out
                have z1 := Z1.out
                go_simp
                exact hK _ _ (hJ.plain (by decide) (by decide) (Ex.refl _) (fun x hx => by rw [hT] at hx; first | exact Option.some.inj hx | simpa using hx))
              · rw [if_pos (by rfl)]
                intro K hK
                have q69 := (hdep ⟨9, .data⟩ (by simp) rfl).2 _ rfl _ rfl
                rw [show f 9 = _ from hJ.vals 9 (hdep ⟨9, .data⟩ (by simp) rfl).1 (.pointer (some ⟨b9, r9 + k * 4 + 3, none⟩)) (by rw [hT]; rfl)] at q69
                have f1 : w2.cell? ⟨b9, r9 + k * 4 + 3, none⟩ = some (.slice pa pn pc) := (hJ.ext.cell (p := ⟨b9, r9 + k * 4 + 3, none⟩) HA9.out).trans C3.out
                rw [Array.getD_eq_getD_getElem?] at q69
                clear hsz hdep hout hlat
                go_simp
                exact hK _ _ (hJ.plain (by decide) (by decide) (Ex.refl _) (fun x hx => by rw [hT] at hx; first | exact Option.some.inj hx | simpa using hx))
              · rw [if_pos (by rfl)]
                intro K hK
                have q70 := (hdep ⟨10, .data⟩ (by simp) rfl).2 _ rfl _ rfl
                rw [show f 10 = _ from hJ.vals 10 (hdep ⟨10, .data⟩ (by simp) rfl).1 (.slice pa pn pc) (by rw [hT]; rfl)] at q70
                rw [Array.getD_eq_getD_getElem?] at q70
                have cm := Lib.hid (CU.out w2 (Sm.Pt.In.ext PI.out hJ.ext))
                clear hsz hdep hout hlat
                go_simp
                refine cm.out.mono ?_
                rintro e w3 ⟨rfl, rfl⟩
                exact hK _ _ (hJ.plain (by decide) (by decide) (Ex.refl _) (fun x hx => by rw [hT] at hx; first | exact Option.some.inj hx | simpa using hx))
              · rw [if_pos (by rfl)]
                intro K hK
                have q65 := (hdep ⟨5, .data⟩ (by simp) rfl).2 _ rfl _ rfl
                rw [show f 5 = _ from hJ.vals 5 (hdep ⟨5, .data⟩ (by simp) rfl).1 (.int .i64 (witI xn 9)) (by rw [hT]; rfl)] at q65
                rw [Array.getD_eq_getD_getElem?] at q65
                clear hsz hdep hout hlat
                go_simp
                exact hK _ _ (hJ.plain (by decide) (by decide) (Ex.refl _) (fun x hx => by rw [hT] at hx; first | exact Option.some.inj hx | simpa using hx))
              · rw [if_pos (by rfl)]
                intro K hK
                have q71 := (hdep ⟨11, .data⟩ (by simp) rfl).2 _ rfl _ rfl
                rw [show f 11 = _ from hJ.vals 11 (hdep ⟨11, .data⟩ (by simp) rfl).1 (.slice pa mn pc) (by rw [hT]; rfl)] at q71
                rw [Array.getD_eq_getD_getElem?] at q71
                clear hsz hdep hout hlat
                go_simp
                exact hK _ _ (hJ.plain (by decide) (by decide) (Ex.refl _) (fun x hx => by rw [hT] at hx; first | exact Option.some.inj hx | simpa using hx))
            · intro listed f w2 hall hJ
              have f0 : f 0 = .slice (some ⟨b9, r9, none⟩) nb capb := hJ.vals 0 (hall 0 (by simp)) _ (by rw [hT]; rfl)
              have f1 : f 1 = .int .i64 k := hJ.vals 1 (hall 1 (by simp)) _ (by rw [hT]; rfl)
              have f2 : f 2 = .pointer (some ⟨b9, r9 + k * 4, none⟩) := hJ.vals 2 (hall 2 (by simp)) _ (by rw [hT]; rfl)
              have f3 : f 3 = .pointer (some ⟨b9, r9 + k * 4 + 1, none⟩) := hJ.vals 3 (hall 3 (by simp)) _ (by rw [hT]; rfl)
              have f4 : f 4 = .int .i64 xn := hJ.vals 4 (hall 4 (by simp)) _ (by rw [hT]; rfl)
              have f5 : f 5 = .int .i64 (witI xn 9) := hJ.vals 5 (hall 5 (by simp)) _ (by rw [hT]; rfl)
              have f6 : f 6 = .slice (some ⟨b9, r9, none⟩) nb capb := hJ.vals 6 (hall 6 (by simp)) _ (by rw [hT]; rfl)
              have f7 : f 7 = .int .i64 k := hJ.vals 7 (hall 7 (by simp)) _ (by rw [hT]; rfl)
              have f8 : f 8 = .pointer (some ⟨b9, r9 + k * 4, none⟩) := hJ.vals 8 (hall 8 (by simp)) _ (by rw [hT]; rfl)
              have f9 : f 9 = .pointer (some ⟨b9, r9 + k * 4 + 3, none⟩) := hJ.vals 9 (hall 9 (by simp)) _ (by rw [hT]; rfl)
              have f10 : f 10 = .slice pa pn pc := hJ.vals 10 (hall 10 (by simp)) _ (by rw [hT]; rfl)
              have f11 : f 11 = .slice pa mn pc := hJ.vals 11 (hall 11 (by simp)) _ (by rw [hT]; rfl)
              have f12 : f 12 = .int .i64 (witI xn 9) := hJ.vals 12 (hall 12 (by simp)) _ (by rw [hT]; rfl)
              have f13 : f 13 = .slice pa mn pc := hJ.vals 13 (hall 13 (by simp)) _ (by rw [hT]; rfl)
              have xw := hJ.ext
              simp only [putAll, Act.put, List.setIfInBounds_toArray, List.set_cons_zero, List.set_cons_succ, Nat.zero_add, Nat.reduceAdd]
              rw [f0, f1, f2, f3, f4, f5, f6, f7, f8, f9, f10, f11, f12, f13]
              clear f0 f1 f2 f3 f4 f5 f6 f7 f8 f9 f10 f11 f12 f13 hJ hall hT
              have K2 := Lib.hid (K.out.ext xw)
              have P2 := Lib.hid (bcut_in (Sm.Pt.In.ext PI.out xw) 20)
              have D2 := Lib.hid (DK.ext D9.out xw)
              have PG2 := Lib.hid (PG.out w2 K2.out.dk (Sm.Pt.In.ext PI.out xw))
              clear xw PG CU WI C1 C3 PI HA9 PL PIN K D9
              go_wp2_with fail
              refine PG2.out.mono ?_
              rintro e w3 ⟨rfl, hk3, m3⟩
              have D3 := Lib.hid (DK.md D2.out K2.out.dk m3 GN.out)
              have P3 : Hid ((Sm.Pt.mk p.ad p.cap (p.l.take 20)).In w3 w3.heap.size) := Lib.hid (by
                obtain ⟨d, hd, _⟩ := K2.out.dk
                exact pt_md P2.out hd.blk m3)
              have K3 := Lib.hid (K2.out.md m3 hk3)
              have PL3 := Lib.hid (show (Sm.Pt.mk p.ad p.cap (p.l.take 20)).l = lastY ((ctA lb).take (k + 1)) by rw [TK.out, lastY_snoc])
              have LI3 := Lib.hid (show lastI ((ctA lb).take (k + 1)) = witI xn 9 by rw [TK.out, lastI_snoc])
              clear PG2 K2 D2 P2 hk3 m3
              go_wp2_with fail
              go_roundw
              case rel => exact ⟨k + 1, _, by omega, by go_num, by rw [LI3.out], HCV.out.symm, PL3, P3, K3, D3⟩
              case measure => simp [intOf]; omega
          · obtain rfl : k = kb := by omega
            obtain ⟨cB, hcB⟩ : ∃ c, c = foldP (syncC cA) ((ctA lb).take k) := ⟨_, rfl⟩
            obtain ⟨lI, hlI⟩ : ∃ c, c = lastI ((ctA lb).take k) := ⟨_, rfl⟩
            obtain ⟨lY, hlY⟩ : ∃ c, c = lastY ((ctA lb).take k) := ⟨_, rfl⟩
            have EN := Lib.hid (fun (t i : Nat) (hi : i < 10) => (show (crashC cB t).now.getD i (false, []) = if (i : Int) = lI ∧ 0 < t then (true, lY.take t) else cA.now.getD i (false, []) by rw [hcB, hlI, hlY]; exact end_at cA _ t i NLA.out hi))
            have OKB := Lib.hid (show Ok20 cB by rw [hcB]; exact OKA.out.sync.fold _)
            have LSB := Lib.hid (show ∃ m : Nat, m < 10 ∧ cB.lst = m by
              obtain ⟨m, hm, e⟩ := LSA.out
              rw [hcB]; exact fold_lst _ _ m hm e)
            have LY20 := Lib.hid (show lY.length ≤ 20 by
              rw [hlY]; unfold lastY
              split
              · simp
              · simp; omega)
            have hlI2 : -1 ≤ lI ∧ lI < 10 := by
              rw [hlI]; unfold lastI
              split
              · omega
              · rename_i z _; have := wit_in z.1 9 (by decide); omega
            rw [← hcB] at K
            rw [← hlI]
            rw [← hlY] at PL
            clear hcB hlI hlY
            have hkk := HKB.out
            rcases (show nb = k ∨ ((k : Int) < (nb : Int) ∧ k = 20) by omega) with rfl | ⟨hd, rfl⟩
            all_goals
              clear hkk
              go_wp2_with fail
              refine (WT.out wr).mono ?_
              rintro e w4' ⟨rfl, rfl⟩
              obtain ⟨t, htI, ht30⟩ : ∃ t : Nat, witI x 30 = (t : Int) ∧ t ≤ 30 := ⟨(witI x 30).toNat, by have := wit_in x 30 (by decide); omega, by have := wit_in x 30 (by decide); omega⟩
              rw [htI]
              clear htI
              obtain ⟨ml, hml, hlst⟩ := LSB.out
              have CR := Lib.hid (crash_any g t (by omega) cB wr K.out.dk ml hml hlst (by have := OKB.out.put; omega))
              clear hml hlst
              obtain ⟨ya, yn, yc, hyv⟩ : ∃ (ya : Option Addr) (yn yc : Nat), ya = py.ad ∧ yn = py.l.length ∧ yc = py.cap := ⟨_, _, _, rfl, rfl, rfl⟩
              have HYV := Lib.hid (show py.V = .slice ya yn yc by rw [hyv.1, hyv.2.1, hyv.2.2]; rfl)
              have HYN := Lib.hid hyv.2.1
              have HYA := Lib.hid hyv.1
              have HYC := Lib.hid hyv.2.2
              have hyc : yn ≤ yc := by rw [hyv.2.1, hyv.2.2]; exact PIN.out.cap
              have hyn : yn ≤ 20 := by rw [hyv.2.1, PL.out]; exact LY20.out
              clear hyv
              rw [HYV.out]
              go_wp2_with fail
              refine CR.out.mono ?_
              rintro e w5 ⟨rfl, hk5, m5⟩
              have D5 := Lib.hid (DK.md D9.out K.out.dk m5 GN.out)
              have P5 : Hid (py.In w5 w5.heap.size) := Lib.hid (by
                obtain ⟨d, hd, _⟩ := K.out.dk
                exact pt_md PIN.out hd.blk m5)
              have K5 := Lib.hid (K.out.md m5 hk5)
              clear CR K D9 PIN hk5 m5
              go_wp2_with fail
              go_loopw [14] (fun iv wr => ∃ (i : Nat), i ≤ 10 ∧ iv = .int .i64 i ∧ Hid (Kp w g (crashC cB t) wr) ∧ Hid (DK wr g9 (copyC (syncC cA))) ∧ Hid (py.In wr wr.heap.size)) (fun iv _ => 10 - (intOf iv).toNat)
              case atStart => exact ⟨0, by omega, rfl, K5, D5, P5⟩
              case round =>
                clear K5 D5 P5
                obtain ⟨i, hi, rfl, K, D9, PIN⟩ := hrel
                by_cases hi10 : i < 10
                · have q0 : (0 : Int) ≤ (i : Int) := by omega
                  have q1 : (i : Int) < 10 := by omega
                  have EI := Lib.hid (EN.out t i hi10)
                  have lw : ((copyC (syncC cA)).now.getD i (false, [])).2.length ≤ 1000000 := by
                    have := OKA.out.now i
                    show (cA.now.getD i (false, [])).2.length ≤ _
                    omega
                  have lc : ((crashC cB t).now.getD i (false, [])).2.length ≤ 1000000 := by
                    rw [EI.out]
                    split
                    · have := LY20.out; simp; omega
                    · have := OKA.out.now i; omega
                  have G1 := Lib.hid (get_any g i hi10 (crashC cB t) wr K.out.dk lc)
                  have G2 := Lib.hid (fun W (h : DK W g9 (copyC (syncC cA))) => get_any g9 i hi10 (copyC (syncC cA)) W h lw)
                  have HI := Lib.hid hi10
                  clear lw lc hi10
                  go_wp2_with fail
                  refine G1.out.mono ?_
                  rintro e w6 ⟨qx, rfl, hql, hqi, x6⟩
                  have K6 := Lib.hid (K.out.ext x6)
                  have D6 := Lib.hid (DK.ext D9.out x6)
                  have P6 := Lib.hid (Sm.Pt.In.ext PIN.out x6)
                  have Q6 := Lib.hid hqi
                  have QL := Lib.hid hql
                  have G3 := Lib.hid (G2.out w6 D6.out)
                  clear G1 G2 K D9 PIN hql hqi x6
                  go_wp2_with fail
                  refine G3.out.mono ?_
                  rintro e w7 ⟨qy, rfl, hql, hqi, x7⟩
                  have K7 := Lib.hid (K6.out.ext x7)
                  have D7 := Lib.hid (DK.ext D6.out x7)
                  have P7 := Lib.hid (Sm.Pt.In.ext P6.out x7)
                  have Q7 := Lib.hid (Sm.Pt.In.ext Q6.out x7)
                  have R7 := Lib.hid hqi
                  have RL := Lib.hid hql
                  clear G3 K6 D6 P6 Q6 hql hqi x7
                  unfold Sm.Pt.V
                  by_cases hyes : (i : Int) = lI ∧ 0 < t
                  · obtain ⟨he, ht0⟩ := hyes
                    have hgb : getB (crashC cB t) i = true := by unfold getB; rw [EI.out, if_pos ⟨he, ht0⟩]
                    have hgl : getL (crashC cB t) i = lY.take t := by unfold getL; rw [hgb, if_pos rfl, EI.out, if_pos ⟨he, ht0⟩]
                    rw [hgb]
                    have QL2 := Lib.hid (QL.out.trans hgl)
                    generalize getB (copyC (syncC cA)) i = b2
                    subst he
                    obtain ⟨mn, hmn⟩ : ∃ mn, mn = min t yn := ⟨_, rfl⟩
                    have t0 : (0 : Int) < (t : Int) := by omega
                    have hmi : min (t : Int) (yn : Int) = (mn : Int) := by omega
                    have hm1 : mn ≤ yc := by omega
                    have hm2 : (mn : Int) ≤ (yc : Int) := by omega
                    have hm3 : (0 : Int) ≤ (mn : Int) := by omega
                    have cv1 := pt_conv qx w7 Q7.out
                    have cv2 := pt_conv (Sm.Pt.mk py.ad py.cap (py.l.take t)) w7 (bcut_in P7.out t)
                    simp only at cv2
                    rw [QL2.out] at cv1
                    have cv1 : (convert 27 9 (.slice qx.ad qx.l.length qx.cap)).run Try.prog w7 = .ok (.string (strL (lY.take t))) w7 := by rw [QL2.out]; exact cv1
                    have cv2 : (convert 27 9 (.slice ya mn yc)).run Try.prog w7 = .ok (.string (strL (lY.take t))) w7 := by
                      have e1 : (py.l.take t).length = mn := by rw [List.length_take, ← HYN.out, hmn]
                      rw [e1, ← HYA.out, ← HYC.out, PL.out] at cv2
                      exact cv2
                    generalize strL (lY.take t) = st at cv1 cv2
                    generalize qx.l.length = qn at cv1 ⊢
                    clear hgl
                    rcases (show (mn = t ∧ (t : Int) ≤ (yn : Int)) ∨ (mn = yn ∧ (yn : Int) < (t : Int)) by omega) with ⟨e1, hty⟩ | ⟨e1, hty⟩
                    all_goals
                      rw [e1] at cv2 hm1 hm2 hm3
                      clear hmn hmi e1
                      go_wp2_with fail
                      go_roundw
                      case rel => exact ⟨i + 1, by omega, by go_num, K7, D7, P7⟩
                      case measure => simp [intOf]; omega
                  · have hE := EI.out
                    rw [if_neg hyes] at hE
                    have hgb : getB (crashC cB t) i = getB (copyC (syncC cA)) i := by unfold getB; rw [hE]; rfl
                    have hgl : getL (crashC cB t) i = getL (copyC (syncC cA)) i := by unfold getL; rw [hgb, hE]; rfl
                    rw [hgb]
                    have cv1 := pt_conv qx w7 Q7.out
                    have cv2 := pt_conv qy w7 R7.out
                    rw [show strL qx.l = strL (getL (copyC (syncC cA)) i) by rw [QL.out, hgl]] at cv1
                    rw [show strL qy.l = strL (getL (copyC (syncC cA)) i) by rw [RL.out]] at cv2
                    generalize strL (getL (copyC (syncC cA)) i) = st at cv1 cv2
                    generalize getB (copyC (syncC cA)) i = b2
                    generalize qx.l.length = qn at cv1 ⊢
                    generalize qy.l.length = qm at cv2 ⊢
                    clear hE hgb hgl
                    by_cases he : (i : Int) = lI
                    · have ht0 : t = 0 := by omega
                      subst he
                      have hz0 : (t : Int) ≤ 0 := by omega
                      clear hyes ht0
                      go_wp2_with fail
                      go_roundw
                      case rel => exact ⟨i + 1, by omega, by go_num, K7, D7, P7⟩
                      case measure => simp [intOf]; omega
                    · have he' : ((i : Int) == lI) = false := by simpa using he
                      clear hyes
                      go_wp2_with fail
                      go_roundw
                      case rel => exact ⟨i + 1, by omega, by go_num, K7, D7, P7⟩
                      case measure => simp [intOf]; omega
                · obtain rfl : i = 10 := by omega
                  go_wp2_with fail
                  refine (KN.out wr).mono ?_
                  rintro e w6 ⟨rfl, x6⟩
                  have BWF := Ex.trans (show Ex w wr from K.out.bel) x6
                  clear x6 K
                  go_wp2_with fail
                  go_ret
                  exact ⟨rfl, BWF⟩
end Go.Proofs.Ytgoiidpcdifojaa
