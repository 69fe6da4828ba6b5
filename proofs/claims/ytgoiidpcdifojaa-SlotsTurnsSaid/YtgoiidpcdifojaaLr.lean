/- walks: the law SlotsTurns -/
import Derived.Test.YtgoiidpcdifojaaLq
namespace Go.Proofs.Ytgoiidpcdifojaa
open Go.RowKit
open Sm (strL pt_conv by8)
theorem turn_any7 (g : Nat) (n : Nat) (hn : n < 10) (a : Int) (c : Dc) (w : World) (h : DK w g c) (hL : (c.now.getD n (false, [])).2.length ≤ 1000000) : Calls Try.prog 23 #[.pointer (some ⟨g, 0, none⟩), .int .i64 n, .int .i64 a] w (MdPostB g (turnC c n a) (turnB c n a) w) := by
  by_cases hy : 0 ≤ a ∧ a < ((c.now.getD n (false, [])).2.length : Nat)
  · have h1 : turnB c n a = true := decide_eq_true hy
    rw [h1]
    obtain ⟨k, rfl⟩ : ∃ k : Nat, a = k := ⟨a.toNat, by omega⟩
    exact turn_go g n hn k c w h hL (by omega)
  · have h1 : turnB c n a = false := decide_eq_false hy
    have h2 : turnC c n a = c := if_neg hy
    rw [h1, h2]
    exact (turn_no g n hn a c w h hy).mono fun e w' ⟨he, hw⟩ => by
      subst hw; exact ⟨he, h, Md.refl _ _⟩
set_option maxHeartbeats 16000000 in
set_option maxRecDepth 100000 in
theorem slotsTurns_walk (q : Rw) (n a : Int) (hn : (Lit.int .i64 n).wf = true) (ha : (Lit.int .i64 a).wf = true) (w : World) (hq : q.In w) :
    Calls Try.prog 5 #[q.V, .int .i64 n, .int .i64 a] w fun e w' => e = .returned (.bool true) ∧ Below w.heap.size w w' := by
  have NW := Lib.hid (new7_any w)
  have KN := Lib.hid known7_any
  have WN := Lib.hid (fun W => within_any n 9 (by decide) (by decide) hn W)
  have WT := Lib.hid (fun W => within_any a 29 (by decide) (by decide) ha W)
  obtain ⟨ad, cap, l⟩ := q
  have HQ := Lib.hid hq
  unfold Rw.V
  simp only
  obtain ⟨nl, hnl⟩ : ∃ n, n = l.length := ⟨_, rfl⟩
  have HNL := Lib.hid hnl
  have hll : nl ≤ 9223372036854775807 := by rw [hnl]; exact hq.len
  rw [← hnl]
  clear hq hnl hn ha
  obtain ⟨ka, hka⟩ : ∃ k, k = min nl 10 := ⟨_, rfl⟩
  have HKA := Lib.hid hka
  have hka1 : ka ≤ 10 := by omega
  have hka2 : ka ≤ nl := by omega
  clear hka
  go_enter Try.func5, Try.ntmps5
  go_wp2_with fail
  refine NW.out.mono ?_
  rintro e w1 ⟨g, rfl, hg, hd, xr⟩
  have K := Lib.hid (show Kp w g (stR (ctR l) 0) w1 from ⟨hd, xr, hg⟩)
  clear NW hg hd xr
  go_wp2_with fail
  go_loopw [8] (fun i wr => ∃ (k : Nat), k ≤ ka ∧ i = .int .i64 k ∧ Hid (Kp w g (stR (ctR l) k) wr)) (fun i _ => ka - (intOf i).toNat)
  case atStart => exact ⟨0, by omega, rfl, K⟩
  case round =>
    clear K
    obtain ⟨k, hk, rfl, K⟩ := hrel
    by_cases hlt : k < ka
    · obtain ⟨a9, o9, e, ha9, hc⟩ := (HQ.out.ext K.out.bel).read (by show 0 < l.length; rw [← HNL.out]; omega)
      simp only at e
      subst e
      obtain ⟨p, hxk⟩ : ∃ x, l[k]? = some x := ⟨_, List.getElem?_eq_getElem (by rw [← HNL.out]; omega)⟩
      obtain ⟨h1, h4, h5⟩ := hc k _ hxk
      have PI := Lib.hid h4
      obtain ⟨pa, pn, pc, hpv⟩ : ∃ (pa : Option Addr) (pn pc : Nat), pa = p.ad ∧ pn = p.l.length ∧ pc = p.cap := ⟨_, _, _, rfl, rfl, rfl⟩
      obtain ⟨mn, hmn⟩ : ∃ mn, mn = (p.l.take 30).length := ⟨_, rfl⟩
      have HPV := Lib.hid (show p.V = .slice pa pn pc by rw [hpv.1, hpv.2.1, hpv.2.2]; rfl)
      have HCV := Lib.hid (show (Sm.Pt.mk p.ad p.cap (p.l.take 30)).V = .slice pa mn pc by rw [hpv.1, hpv.2.2, hmn]; rfl)
      have CU := Lib.hid (show Calls Try.prog 16 #[.slice pa pn pc, .int .i64 30] wr fun e w' => e = .returned (.slice pa mn pc) ∧ wr = w' by
        have h := cut_any p 30 (by decide) (by decide) h5 wr h4
        rw [HPV.out, HCV.out] at h; exact h)
      rw [HPV.out] at h1
      have PG := Lib.hid (show Calls Try.prog 14 #[.pointer (some ⟨g, 0, none⟩), .int .i64 k, .slice pa mn pc] wr (MdPostB g (stR (ctR l) (k + 1)) true wr) by
        have hp := (stR_len (ctR l) k).2
        have h := put_go g k (by omega) ⟨p.ad, p.cap, p.l.take 30⟩ (by show (p.l.take 30).length ≤ 8192; simp; omega) (stR (ctR l) k) (by rw [hp]; omega) (by rw [hp]; omega) wr K.out.dk (bcut_in h4 30)
        rw [HCV.out] at h
        show Calls _ _ _ _ (MdPostB g (putC (stR (ctR l) k) k (((ctR l).getD k []).take 30)) true wr)
        rw [ctR_at l k p hxk]
        exact h)
      have z0 : (0 : Int) ≤ (k : Int) := by omega
      have z1 : (k : Int) < (nl : Int) := by omega
      have z2 : (k : Int) < 10 := by omega
      clear hc hxk h4 h5 hpv hmn ha9
      go_wp2_with fail
      refine CU.out.mono ?_
      rintro e w7 ⟨rfl, rfl⟩
      clear CU
      go_wp2_with fail
      refine PG.out.mono ?_
      rintro e w3 ⟨rfl, hk3, m3⟩
      have K3 := Lib.hid (K.out.md m3 hk3)
      clear PG hk3 m3 K h1
      go_wp2_with fail
      go_roundw
      case rel => exact ⟨k + 1, by omega, by go_num, K3⟩
      case measure => simp [intOf]; omega
    · obtain rfl : k = ka := by omega
      have hkk := HKA.out
      obtain ⟨ka, hkae⟩ : ∃ z, z = k := ⟨_, rfl⟩
      rw [← hkae] at K
      have HKA2 := Lib.hid (show ka ≤ 10 ∧ ka = min nl 10 by omega)
      have hka3 : ka ≤ 10 := by omega
      rcases (show nl = k ∨ ((k : Int) < (nl : Int) ∧ k = 10) by omega) with rfl | ⟨hd, rfl⟩
      all_goals
        clear hkk hkae
        go_wp2_with fail
        have SY := Lib.hid (sync_any g (stR (ctR l) ka) wr K.out.dk)
        refine SY.out.mono ?_
        rintro e w2 ⟨rfl, hk2, m2⟩
        have K2 := Lib.hid (show Kp w g (syncC (stR (ctR l) ka)) w2 from K.out.md m2 hk2)
        clear SY K hk2 m2
        obtain ⟨cD, hcD⟩ : ∃ c, c = syncC (stR (ctR l) ka) := ⟨_, rfl⟩
        have ND := Lib.hid (show cD.now.length = 10 by rw [hcD]; exact (stR_len _ _).1)
        have AT := Lib.hid (show ∀ n, cD.now.getD n (false, []) = if n < ka then (true, ((ctR l).getD n []).take 30) else (false, []) by rw [hcD]; exact stR_at _ _ (by omega))
        have LN := Lib.hid (show ∀ n, (cD.now.getD n (false, [])).2.length ≤ 30 by
          intro n
          rw [AT.out n]
          split
          · simp; omega
          · simp)
        rw [← hcD] at K2
        clear hcD
        go_wp2_with fail
        have CP := Lib.hid (copy_any g cD w2 K2.out.dk)
        refine CP.out.mono ?_
        rintro e w3 ⟨g9, rfl, hg9, hd9, x3⟩
        have K3 := Lib.hid (K2.out.ext x3)
        have GN := Lib.hid (show g9 ≠ g by
          have : g < w2.heap.size := by obtain ⟨d, hd, _⟩ := K2.out.dk; exact hd.blk.lt
          omega)
        have D9 := Lib.hid hd9
        clear CP K2 hg9 hd9 x3
        go_wp2_with fail
        refine (WN.out w3).mono ?_
        rintro e w4' ⟨rfl, rfl⟩
        obtain ⟨k0, hk0, hk10⟩ : ∃ k0 : Nat, witI n 9 = (k0 : Int) ∧ k0 < 10 := ⟨(witI n 9).toNat, (wit9 n).2.symm, (wit9 n).1⟩
        rw [hk0]
        go_wp2_with fail
        refine (WT.out w3).mono ?_
        rintro e w4' ⟨rfl, rfl⟩
        obtain ⟨t0, ht0, ht30⟩ : ∃ t0 : Nat, witI a 29 = (t0 : Int) ∧ t0 < 30 := ⟨(witI a 29).toNat, by have := wit_in a 29 (by decide); omega, by have := wit_in a 29 (by decide); omega⟩
        rw [ht0]
        clear hk0 ht0 WN WT
        obtain ⟨th, hth⟩ : ∃ b, b = turnB cD k0 t0 := ⟨_, rfl⟩
        have HTH := Lib.hid hth
        have TN := Lib.hid (turn_any7 g k0 hk10 t0 cD w3 K3.out.dk (by have := LN.out k0; omega))
        have TD := Lib.hid (turn_diff cD k0 t0 (by rw [ND.out]; exact hk10) _ rfl)
        have TT := Lib.hid (turn_twice cD k0 t0 (by rw [ND.out]; exact hk10) _ rfl)
        have TW := Lib.hid (turn_now cD k0 t0 (by rw [ND.out]; exact hk10) _ rfl)
        have HK10 := Lib.hid hk10
        have HT30 := Lib.hid ht30
        rw [← hth] at TN TD TT
        clear hth
        have k00 : (0 : Int) ≤ (k0 : Int) := by omega
        have k01 : (k0 : Int) < 10 := by omega
        by_cases hkn : k0 < nl
        · obtain ⟨a9, o9, e, ha9, hc⟩ := (HQ.out.ext K3.out.bel).read (by show 0 < l.length; rw [← HNL.out]; omega)
          simp only at e
          subst e
          obtain ⟨p, hxk⟩ : ∃ x, l[k0]? = some x := ⟨_, List.getElem?_eq_getElem (by rw [← HNL.out]; omega)⟩
          obtain ⟨h1, h4, h5⟩ := hc k0 _ hxk
          obtain ⟨pa, pn, pc, hpv⟩ : ∃ (pa : Option Addr) (pn pc : Nat), pa = p.ad ∧ pn = p.l.length ∧ pc = p.cap := ⟨_, _, _, rfl, rfl, rfl⟩
          obtain ⟨mn, hmn⟩ : ∃ mn, mn = (p.l.take 30).length := ⟨_, rfl⟩
          have HPV := Lib.hid (show p.V = .slice pa pn pc by rw [hpv.1, hpv.2.1, hpv.2.2]; rfl)
          have HCV := Lib.hid (show (Sm.Pt.mk p.ad p.cap (p.l.take 30)).V = .slice pa mn pc by rw [hpv.1, hpv.2.2, hmn]; rfl)
          have CU := Lib.hid (show Calls Try.prog 16 #[.slice pa pn pc, .int .i64 30] w3 fun e w' => e = .returned (.slice pa mn pc) ∧ w3 = w' by
            have h := cut_any p 30 (by decide) (by decide) h5 w3 h4
            rw [HPV.out, HCV.out] at h; exact h)
          rw [HPV.out] at h1
          have HTM := Lib.hid (show th = decide (t0 < mn) by
            rw [HTH.out, TW.out.1, AT.out k0, if_pos (by have := HKA2.out; have := HK10.out; omega), hmn, ctR_at l k0 p hxk])
          have z1 : (k0 : Int) < (nl : Int) := by omega
          clear hc hxk h4 h5 hpv hmn ha9 hkn
          go_wp2_with fail
          refine CU.out.mono ?_
          rintro e w5 ⟨rfl, rfl⟩
          clear CU h1
          cases th
          · have z3 : ¬ ((t0 : Int) < (mn : Int)) := by have := of_decide_eq_false HTM.out.symm; omega
            have z5 := HTM.out.symm
            clear HTM
            go_wp2_with fail
            have z6 : decide ((t0 : Int) < (mn : Int)) = false := decide_eq_false (by omega)
            first | rw [z6] | simp only [z5, z6] | skip
            clear z5 z6 z3
            refine TN.out.mono ?_
            rintro e w5 ⟨rfl, hk5, m5⟩
            have D5 := Lib.hid (DK.md D9.out K3.out.dk m5 GN.out)
            have K5 := Lib.hid (show Kp w g (turnC cD k0 t0) w5 from K3.out.md m5 hk5)
            have S1 := Lib.hid (show Calls Try.prog 22 #[.pointer (some ⟨g, 0, none⟩), .pointer (some ⟨g9, 0, none⟩)] w5 fun e w' => e = .returned (.bool true) ∧ Below w5.heap.size w5 w' by
              have h := same7_any g g9 (turnC cD k0 t0) (copyC cD) w5 K5.out.dk D5.out
              rw [show decide ((turnC cD k0 t0).now = (copyC cD).now) = !false from TD.out] at h; exact h)
            clear TN K3 D9 hk5 m5 TD
            go_wp2_with fail
            refine S1.out.mono ?_
            rintro e w6 ⟨rfl, x6⟩
            have K6 := Lib.hid (K5.out.ext x6)
            have D6 := Lib.hid (DK.ext D5.out x6)
            clear S1 K5 D5 x6
            go_wp2_with fail
            go_loopw [13] (fun iv wr => ∃ (i : Nat), i ≤ 10 ∧ iv = .int .i64 i ∧ Hid (Kp w g (turnC cD k0 t0) wr) ∧ Hid (DK wr g9 (copyC cD))) (fun iv _ => 10 - (intOf iv).toNat)
            case atStart => exact ⟨0, by omega, rfl, K6, D6⟩
            case round =>
              clear K6 D6
              obtain ⟨i, hi, rfl, K, D9⟩ := hrel
              by_cases hi10 : i < 10
              · have q0 : (0 : Int) ≤ (i : Int) := by omega
                have q1 : (i : Int) < 10 := by omega
                have lw : ((copyC cD).now.getD i (false, [])).2.length ≤ 1000000 := by have := LN.out i; show (cD.now.getD i (false, [])).2.length ≤ _; omega
                have lc : ((turnC cD k0 t0).now.getD i (false, [])).2.length ≤ 1000000 := by
                  by_cases hk : i = k0
                  · subst hk
                    by_cases hy : t0 < (cD.now.getD i (false, [])).2.length
                    · rw [TW.out.2.1 hy, getD_set, if_pos ⟨rfl, by rw [ND.out]; exact hi10⟩]
                      show (flipA _ _).length ≤ _
                      unfold flipA; rw [List.length_set]; have := LN.out i; omega
                    · rw [TW.out.2.2 hy]; have := LN.out i; omega
                  · rw [turn_other cD k0 t0 i hk]; have := LN.out i; omega
                have G1 := Lib.hid (get_any g i hi10 (turnC cD k0 t0) wr K.out.dk lc)
                have G2 := Lib.hid (fun W (h : DK W g9 (copyC cD)) => get_any g9 i hi10 (copyC cD) W h lw)
                have HI := Lib.hid hi10
                clear lw lc hi10
                go_wp2_with fail
                refine G1.out.mono ?_
                rintro e w6 ⟨qx, rfl, hql, hqi, x6⟩
                have K6 := Lib.hid (K.out.ext x6)
                have D6 := Lib.hid (DK.ext D9.out x6)
                have Q6 := Lib.hid hqi
                have QL := Lib.hid hql
                have G3 := Lib.hid (G2.out w6 D6.out)
                clear G1 G2 K D9 hql hqi x6
                go_wp2_with fail
                refine G3.out.mono ?_
                rintro e w7 ⟨qy, rfl, hql, hqi, x7⟩
                have K7 := Lib.hid (K6.out.ext x7)
                have D7 := Lib.hid (DK.ext D6.out x7)
                have Q7 := Lib.hid (Sm.Pt.In.ext Q6.out x7)
                have R7 := Lib.hid hqi
                have RL := Lib.hid hql
                clear G3 K6 D6 Q6 hql hqi x7
                obtain ⟨xa, xn, xc, hxv⟩ : ∃ (a : Option Addr) (n c : Nat), a = qx.ad ∧ n = qx.l.length ∧ c = qx.cap := ⟨_, _, _, rfl, rfl, rfl⟩
                obtain ⟨ya, yn, yc, hyv⟩ : ∃ (a : Option Addr) (n c : Nat), a = qy.ad ∧ n = qy.l.length ∧ c = qy.cap := ⟨_, _, _, rfl, rfl, rfl⟩
                have VX := Lib.hid (show qx.V = .slice xa xn xc by rw [hxv.1, hxv.2.1, hxv.2.2]; rfl)
                have VY := Lib.hid (show qy.V = .slice ya yn yc by rw [hyv.1, hyv.2.1, hyv.2.2]; rfl)
                have HXV := Lib.hid hxv
                have HYV := Lib.hid hyv
                rw [VX.out, VY.out]
                clear hxv hyv
                generalize getB (turnC cD k0 t0) i = bb1
                generalize getB (copyC cD) i = bb2
                by_cases hk : i = k0
                · subst hk
                  go_wp2_with fail
                  obtain ⟨T, hT⟩ : ∃ T : List (Option Value), T = [some (.int .i64 i), some (.int .i64 i), some (.bool false), some (.bool false), none, none, none, none, none, some (.bool false), some (.bool false), some (.int .i64 i), some (.int .i64 i), some (.bool true), some (.bool true), some (.bool false), some (.bool false), some (.bool false), none, none, none, none, none, some (undef), none, none, none, none, none, none, none, none, none, none, none, some (.bool false), some (.bool false)] := ⟨_, rfl⟩
                  refine wp_region_gen (JL w7 T 1000 1001 0 #[] #[]) (by kernel_rfl) (by kernel_rfl) (by kernel_rfl) (fitB_spec (by kernel_rfl)) (fun listed f h => JL.start _ listed f h) ?_ ?_
                  · intro i o ho
                    have hi : i < 37 := (Array.getElem?_eq_some_iff.1 ho).1
                    have hi' : i = 0 ∨ i = 1 ∨ i = 2 ∨ i = 3 ∨ i = 4 ∨ i = 5 ∨ i = 6 ∨ i = 7 ∨ i = 8 ∨ i = 9 ∨ i = 10 ∨ i = 11 ∨ i = 12 ∨ i = 13 ∨ i = 14 ∨ i = 15 ∨ i = 16 ∨ i = 17 ∨ i = 18 ∨ i = 19 ∨ i = 20 ∨ i = 21 ∨ i = 22 ∨ i = 23 ∨ i = 24 ∨ i = 25 ∨ i = 26 ∨ i = 27 ∨ i = 28 ∨ i = 29 ∨ i = 30 ∨ i = 31 ∨ i = 32 ∨ i = 33 ∨ i = 34 ∨ i = 35 ∨ i = 36 := by omega
                    clear hi
                    rcases hi' with rfl | rfl | rfl | rfl | rfl | rfl | rfl | rfl | rfl | rfl | rfl | rfl | rfl | rfl | rfl | rfl | rfl | rfl | rfl | rfl | rfl | rfl | rfl | rfl | rfl | rfl | rfl | rfl | rfl | rfl | rfl | rfl | rfl | rfl | rfl | rfl | rfl
                    all_goals (simp only [List.getElem?_toArray, List.getElem?_cons_zero, List.getElem?_cons_succ, Option.some.injEq] at ho; subst ho; intro listed f a w2 hJ hsz hls hun hdep hout hlat)
                    · rw [if_pos (by rfl)]
                      intro K hK
                      have q13 := hout 13 (outB_spec (by kernel_rfl))
                      refine wp_mv _ rfl (hK _ _ ?_)
                      rw [show a.eval (.tmp 13) = .int .i64 i from q13]
                      exact hJ.plain (by decide) (by decide) (Ex.refl _) (fun x hx => by rw [hT] at hx; first | exact Option.some.inj hx | simpa using hx)
                    · rw [if_pos (by rfl)]
                      intro K hK
                      have q10 := hout 10 (outB_spec (by kernel_rfl))
                      refine wp_mv _ rfl (hK _ _ ?_)
                      rw [show a.eval (.tmp 10) = .int .i64 i from q10]
                      exact hJ.plain (by decide) (by decide) (Ex.refl _) (fun x hx => by rw [hT] at hx; first | exact Option.some.inj hx | simpa using hx)
                    · rw [if_pos (by rfl)]
                      intro K hK
                      have q95 := (hdep ⟨0, .data⟩ (by simp) rfl).2 _ rfl _ rfl
                      rw [show f 0 = _ from hJ.vals 0 (hdep ⟨0, .data⟩ (by simp) rfl).1 (.int .i64 i) (by rw [hT]; rfl)] at q95
                      have q96 := (hdep ⟨1, .data⟩ (by simp) rfl).2 _ rfl _ rfl
                      rw [show f 1 = _ from hJ.vals 1 (hdep ⟨1, .data⟩ (by simp) rfl).1 (.int .i64 i) (by rw [hT]; rfl)] at q96
                      rw [Array.getD_eq_getD_getElem?] at q95
                      rw [Array.getD_eq_getD_getElem?] at q96
                      clear hsz hdep hout hlat
                      go_simp
                      exact hK _ _ (hJ.plain (by decide) (by decide) (Ex.refl _) (fun x hx => by rw [hT] at hx; first | exact Option.some.inj hx | simpa using hx))
                    · rw [if_pos (by rfl)]
                      intro K hK
                      have q97 := (hdep ⟨2, .data⟩ (by simp) rfl).2 _ rfl _ rfl
                      rw [show f 2 = _ from hJ.vals 2 (hdep ⟨2, .data⟩ (by simp) rfl).1 (.bool false) (by rw [hT]; rfl)] at q97
                      refine wp_mv _ rfl (hK _ _ ?_)
                      rw [show a.eval (.tmp 97) = .bool false from q97]
                      exact hJ.plain (by decide) (by decide) (Ex.refl _) (fun x hx => by rw [hT] at hx; first | exact Option.some.inj hx | simpa using hx)
                    · have kg := (hdep ⟨3, .guard⟩ (by simp) rfl).2 _ rfl _ rfl
                      rw [show f 3 = _ from hJ.vals 3 (hdep ⟨3, .guard⟩ (by simp) rfl).1 (.bool false) (by rw [hT]; rfl)] at kg
                      rw [if_neg (not_wanted rfl rfl rfl kg (by decide))]
                      exact hJ.plain (by decide) (by decide) (Ex.refl _) (fun x hx => by rw [hT] at hx; change none = some x at hx; cases hx)
                    · have kg := (hdep ⟨3, .guard⟩ (by simp) rfl).2 _ rfl _ rfl
                      rw [show f 3 = _ from hJ.vals 3 (hdep ⟨3, .guard⟩ (by simp) rfl).1 (.bool false) (by rw [hT]; rfl)] at kg
                      rw [if_neg (not_wanted rfl rfl rfl kg (by decide))]
                      exact hJ.plain (by decide) (by decide) (Ex.refl _) (fun x hx => by rw [hT] at hx; change none = some x at hx; cases hx)
                    · have kg := (hdep ⟨3, .guard⟩ (by simp) rfl).2 _ rfl _ rfl
                      rw [show f 3 = _ from hJ.vals 3 (hdep ⟨3, .guard⟩ (by simp) rfl).1 (.bool false) (by rw [hT]; rfl)] at kg
                      rw [if_neg (not_wanted rfl rfl rfl kg (by decide))]
                      exact hJ.plain (by decide) (by decide) (Ex.refl _) (fun x hx => by rw [hT] at hx; change none = some x at hx; cases hx)
                    · have kg := (hdep ⟨3, .guard⟩ (by simp) rfl).2 _ rfl _ rfl
                      rw [show f 3 = _ from hJ.vals 3 (hdep ⟨3, .guard⟩ (by simp) rfl).1 (.bool false) (by rw [hT]; rfl)] at kg
                      rw [if_neg (not_wanted rfl rfl rfl kg (by decide))]
                      exact hJ.plain (by decide) (by decide) (Ex.refl _) (fun x hx => by rw [hT] at hx; change none = some x at hx; cases hx)
                    · have kg := (hdep ⟨3, .guard⟩ (by simp) rfl).2 _ rfl _ rfl
                      rw [show f 3 = _ from hJ.vals 3 (hdep ⟨3, .guard⟩ (by simp) rfl).1 (.bool false) (by rw [hT]; rfl)] at kg
                      rw [if_neg (not_wanted rfl rfl rfl kg (by decide))]
                      exact hJ.plain (by decide) (by decide) (Ex.refl _) (fun x hx => by rw [hT] at hx; change none = some x at hx; cases hx)
                    · rw [if_pos (by rfl)]
                      intro K hK
                      have q98 := (hdep ⟨3, .data⟩ (by simp) rfl).2 _ rfl _ rfl
                      rw [show f 3 = _ from hJ.vals 3 (hdep ⟨3, .data⟩ (by simp) rfl).1 (.bool false) (by rw [hT]; rfl)] at q98
                      have q103 := (hdep ⟨8, .data⟩ (by simp) rfl).2 _ rfl _ rfl
                      rw [Array.getD_eq_getD_getElem?] at q98
                      rw [Array.getD_eq_getD_getElem?] at q103
                      clear hsz hdep hout hlat
                      go_simp
                      exact hK _ _ (hJ.plain (by decide) (by decide) (Ex.refl _) (fun x hx => by rw [hT] at hx; first | exact Option.some.inj hx | simpa using hx))
                    · rw [if_pos (by rfl)]
                      intro K hK
                      have q104 := (hdep ⟨9, .data⟩ (by simp) rfl).2 _ rfl _ rfl
                      rw [show f 9 = _ from hJ.vals 9 (hdep ⟨9, .data⟩ (by simp) rfl).1 (.bool false) (by rw [hT]; rfl)] at q104
                      refine wp_mv _ rfl (hK _ _ ?_)
                      rw [show a.eval (.tmp 104) = .bool false from q104]
                      exact hJ.plain (by decide) (by decide) (Ex.refl _) (fun x hx => by rw [hT] at hx; first | exact Option.some.inj hx | simpa using hx)
                    · have kg := (hdep ⟨10, .guard⟩ (by simp) rfl).2 _ rfl _ rfl
                      rw [show f 10 = _ from hJ.vals 10 (hdep ⟨10, .guard⟩ (by simp) rfl).1 (.bool false) (by rw [hT]; rfl)] at kg
                      rw [if_pos (wanted_of rfl rfl rfl kg)]
                      intro K hK
                      have q13 := hout 13 (outB_spec (by kernel_rfl))
                      refine wp_mv _ rfl (hK _ _ ?_)
                      rw [show a.eval (.tmp 13) = .int .i64 i from q13]
                      exact hJ.plain (by decide) (by decide) (Ex.refl _) (fun x hx => by rw [hT] at hx; first | exact Option.some.inj hx | simpa using hx)
                    · have kg := (hdep ⟨10, .guard⟩ (by simp) rfl).2 _ rfl _ rfl
                      rw [show f 10 = _ from hJ.vals 10 (hdep ⟨10, .guard⟩ (by simp) rfl).1 (.bool false) (by rw [hT]; rfl)] at kg
                      rw [if_pos (wanted_of rfl rfl rfl kg)]
                      intro K hK
                      have q10 := hout 10 (outB_spec (by kernel_rfl))
                      refine wp_mv _ rfl (hK _ _ ?_)
                      rw [show a.eval (.tmp 10) = .int .i64 i from q10]
                      exact hJ.plain (by decide) (by decide) (Ex.refl _) (fun x hx => by rw [hT] at hx; first | exact Option.some.inj hx | simpa using hx)
                    · have kg := (hdep ⟨10, .guard⟩ (by simp) rfl).2 _ rfl _ rfl
                      rw [show f 10 = _ from hJ.vals 10 (hdep ⟨10, .guard⟩ (by simp) rfl).1 (.bool false) (by rw [hT]; rfl)] at kg
                      rw [if_pos (wanted_of rfl rfl rfl kg)]
                      intro K hK
                      have q106 := (hdep ⟨11, .data⟩ (by simp) rfl).2 _ rfl _ rfl
                      rw [show f 11 = _ from hJ.vals 11 (hdep ⟨11, .data⟩ (by simp) rfl).1 (.int .i64 i) (by rw [hT]; rfl)] at q106
                      have q107 := (hdep ⟨12, .data⟩ (by simp) rfl).2 _ rfl _ rfl
                      rw [show f 12 = _ from hJ.vals 12 (hdep ⟨12, .data⟩ (by simp) rfl).1 (.int .i64 i) (by rw [hT]; rfl)] at q107
                      rw [Array.getD_eq_getD_getElem?] at q106
                      rw [Array.getD_eq_getD_getElem?] at q107
                      clear hsz hdep hout hlat
                      go_simp
                      exact hK _ _ (hJ.plain (by decide) (by decide) (Ex.refl _) (fun x hx => by rw [hT] at hx; first | exact Option.some.inj hx | simpa using hx))
                    · have kg := (hdep ⟨10, .guard⟩ (by simp) rfl).2 _ rfl _ rfl
                      rw [show f 10 = _ from hJ.vals 10 (hdep ⟨10, .guard⟩ (by simp) rfl).1 (.bool false) (by rw [hT]; rfl)] at kg
                      rw [if_pos (wanted_of rfl rfl rfl kg)]
                      intro K hK
                      have q108 := (hdep ⟨13, .data⟩ (by simp) rfl).2 _ rfl _ rfl
                      rw [show f 13 = _ from hJ.vals 13 (hdep ⟨13, .data⟩ (by simp) rfl).1 (.bool true) (by rw [hT]; rfl)] at q108
                      refine wp_mv _ rfl (hK _ _ ?_)
                      rw [show a.eval (.tmp 108) = .bool true from q108]
                      exact hJ.plain (by decide) (by decide) (Ex.refl _) (fun x hx => by rw [hT] at hx; first | exact Option.some.inj hx | simpa using hx)
                    · have kg := (hdep ⟨14, .guard⟩ (by simp) rfl).2 _ rfl _ rfl
                      rw [show f 14 = _ from hJ.vals 14 (hdep ⟨14, .guard⟩ (by simp) rfl).1 (.bool true) (by rw [hT]; rfl)] at kg
                      rw [if_pos (wanted_of rfl rfl rfl kg)]
                      intro K hK
                      have q12 := hout 12 (outB_spec (by kernel_rfl))
                      refine wp_mv _ rfl (hK _ _ ?_)
                      rw [show a.eval (.tmp 12) = .bool false from q12]
                      exact hJ.plain (by decide) (by decide) (Ex.refl _) (fun x hx => by rw [hT] at hx; first | exact Option.some.inj hx | simpa using hx)
                    · have kg := (hdep ⟨10, .guard⟩ (by simp) rfl).2 _ rfl _ rfl
                      rw [show f 10 = _ from hJ.vals 10 (hdep ⟨10, .guard⟩ (by simp) rfl).1 (.bool false) (by rw [hT]; rfl)] at kg
                      rw [if_pos (wanted_of rfl rfl rfl kg)]
                      intro K hK
                      have q109 := (hdep ⟨14, .data⟩ (by simp) rfl).2 _ rfl _ rfl
                      rw [show f 14 = _ from hJ.vals 14 (hdep ⟨14, .data⟩ (by simp) rfl).1 (.bool true) (by rw [hT]; rfl)] at q109
                      have q110 := (hdep ⟨15, .data⟩ (by simp) rfl).2 _ rfl _ rfl
                      rw [show f 15 = _ from hJ.vals 15 (hdep ⟨15, .data⟩ (by simp) rfl).1 (.bool false) (by rw [hT]; rfl)] at q110
                      rw [Array.getD_eq_getD_getElem?] at q109
                      rw [Array.getD_eq_getD_getElem?] at q110
                      clear hsz hdep hout hlat
                      go_simp
                      exact hK _ _ (hJ.plain (by decide) (by decide) (Ex.refl _) (fun x hx => by rw [hT] at hx; first | exact Option.some.inj hx | simpa using hx))
                    · have kg := (hdep ⟨10, .guard⟩ (by simp) rfl).2 _ rfl _ rfl
                      rw [show f 10 = _ from hJ.vals 10 (hdep ⟨10, .guard⟩ (by simp) rfl).1 (.bool false) (by rw [hT]; rfl)] at kg
                      rw [if_pos (wanted_of rfl rfl rfl kg)]
                      intro K hK
                      have q111 := (hdep ⟨16, .data⟩ (by simp) rfl).2 _ rfl _ rfl
                      rw [show f 16 = _ from hJ.vals 16 (hdep ⟨16, .data⟩ (by simp) rfl).1 (.bool false) (by rw [hT]; rfl)] at q111
                      refine wp_mv _ rfl (hK _ _ ?_)
                      rw [show a.eval (.tmp 111) = .bool false from q111]
                      exact hJ.plain (by decide) (by decide) (Ex.refl _) (fun x hx => by rw [hT] at hx; first | exact Option.some.inj hx | simpa using hx)
                    · have kg := (hdep ⟨17, .guard⟩ (by simp) rfl).2 _ rfl _ rfl
                      rw [show f 17 = _ from hJ.vals 17 (hdep ⟨17, .guard⟩ (by simp) rfl).1 (.bool false) (by rw [hT]; rfl)] at kg
                      rw [if_neg (not_wanted rfl rfl rfl kg (by decide))]
                      exact hJ.plain (by decide) (by decide) (Ex.refl _) (fun x hx => by rw [hT] at hx; change none = some x at hx; cases hx)
                    · have kg := (hdep ⟨17, .guard⟩ (by simp) rfl).2 _ rfl _ rfl
                      rw [show f 17 = _ from hJ.vals 17 (hdep ⟨17, .guard⟩ (by simp) rfl).1 (.bool false) (by rw [hT]; rfl)] at kg
                      rw [if_neg (not_wanted rfl rfl rfl kg (by decide))]
                      exact hJ.plain (by decide) (by decide) (Ex.refl _) (fun x hx => by rw [hT] at hx; change none = some x at hx; cases hx)
                    · have kg := (hdep ⟨17, .guard⟩ (by simp) rfl).2 _ rfl _ rfl
                      rw [show f 17 = _ from hJ.vals 17 (hdep ⟨17, .guard⟩ (by simp) rfl).1 (.bool false) (by rw [hT]; rfl)] at kg
                      rw [if_neg (not_wanted rfl rfl rfl kg (by decide))]
                      exact hJ.plain (by decide) (by decide) (Ex.refl _) (fun x hx => by rw [hT] at hx; change none = some x at hx; cases hx)
                    · have kg := (hdep ⟨17, .guard⟩ (by simp) rfl).2 _ rfl _ rfl
                      rw [show f 17 = _ from hJ.vals 17 (hdep ⟨17, .guard⟩ (by simp) rfl).1 (.bool false) (by rw [hT]; rfl)] at kg
                      rw [if_neg (not_wanted rfl rfl rfl kg (by decide))]
                      exact hJ.plain (by decide) (by decide) (Ex.refl _) (fun x hx => by rw [hT] at hx; change none = some x at hx; cases hx)
                    · have kg := (hdep ⟨17, .guard⟩ (by simp) rfl).2 _ rfl _ rfl
                      rw [show f 17 = _ from hJ.vals 17 (hdep ⟨17, .guard⟩ (by simp) rfl).1 (.bool false) (by rw [hT]; rfl)] at kg
                      rw [if_neg (not_wanted rfl rfl rfl kg (by decide))]
                      exact hJ.plain (by decide) (by decide) (Ex.refl _) (fun x hx => by rw [hT] at hx; change none = some x at hx; cases hx)
                    · have kg := (hdep ⟨17, .guard⟩ (by simp) rfl).2 _ rfl _ rfl
                      rw [show f 17 = _ from hJ.vals 17 (hdep ⟨17, .guard⟩ (by simp) rfl).1 (.bool false) (by rw [hT]; rfl)] at kg
                      rw [if_neg (not_wanted rfl rfl rfl kg (by decide))]
                      exact hJ.plain (by decide) (by decide) (Ex.refl _) (fun x hx => by rw [hT] at hx; first | exact Option.some.inj hx | simpa using hx)
                    · have kg := (hdep ⟨23, .guard⟩ (by simp) rfl).2 _ rfl _ rfl
                      rw [show f 23 = _ from hJ.vals 23 (hdep ⟨23, .guard⟩ (by simp) rfl).1 (undef) (by rw [hT]; rfl)] at kg
                      rw [if_neg (not_wanted_x rfl rfl rfl kg (by simp [undef]))]
                      exact hJ.plain (by decide) (by decide) (Ex.refl _) (fun x hx => by rw [hT] at hx; change none = some x at hx; cases hx)
                    · have kg := (hdep ⟨23, .guard⟩ (by simp) rfl).2 _ rfl _ rfl
                      rw [show f 23 = _ from hJ.vals 23 (hdep ⟨23, .guard⟩ (by simp) rfl).1 (undef) (by rw [hT]; rfl)] at kg
                      rw [if_neg (not_wanted_x rfl rfl rfl kg (by simp [undef]))]
                      exact hJ.plain (by decide) (by decide) (Ex.refl _) (fun x hx => by rw [hT] at hx; change none = some x at hx; cases hx)
                    · have kg := (hdep ⟨23, .guard⟩ (by simp) rfl).2 _ rfl _ rfl
                      rw [show f 23 = _ from hJ.vals 23 (hdep ⟨23, .guard⟩ (by simp) rfl).1 (undef) (by rw [hT]; rfl)] at kg
                      rw [if_neg (not_wanted_x rfl rfl rfl kg (by simp [undef]))]
                      exact hJ.plain (by decide) (by decide) (Ex.refl _) (fun x hx => by rw [hT] at hx; change none = some x at hx; cases hx)
                    · have kg := (hdep ⟨23, .guard⟩ (by simp) rfl).2 _ rfl _ rfl
                      rw [show f 23 = _ from hJ.vals 23 (hdep ⟨23, .guard⟩ (by simp) rfl).1 (undef) (by rw [hT]; rfl)] at kg
                      rw [if_neg (not_wanted_x rfl rfl rfl kg (by simp [undef]))]
                      exact hJ.plain (by decide) (by decide) (Ex.refl _) (fun x hx => by rw [hT] at hx; change none = some x at hx; cases hx)
                    · have kg := (hdep ⟨23, .guard⟩ (by simp) rfl).2 _ rfl _ rfl
                      rw [show f 23 = _ from hJ.vals 23 (hdep ⟨23, .guard⟩ (by simp) rfl).1 (undef) (by rw [hT]; rfl)] at kg
                      rw [if_neg (not_wanted_x rfl rfl rfl kg (by simp [undef]))]
                      exact hJ.plain (by decide) (by decide) (Ex.refl _) (fun x hx => by rw [hT] at hx; change none = some x at hx; cases hx)
                    · have kg := (hdep ⟨23, .guard⟩ (by simp) rfl).2 _ rfl _ rfl
                      rw [show f 23 = _ from hJ.vals 23 (hdep ⟨23, .guard⟩ (by simp) rfl).1 (undef) (by rw [hT]; rfl)] at kg
                      rw [if_neg (not_wanted_x rfl rfl rfl kg (by simp [undef]))]
                      exact hJ.plain (by decide) (by decide) (Ex.refl _) (fun x hx => by rw [hT] at hx; change none = some x at hx; cases hx)
                    · have kg := (hdep ⟨23, .guard⟩ (by simp) rfl).2 _ rfl _ rfl
                      rw [show f 23 = _ from hJ.vals 23 (hdep ⟨23, .guard⟩ (by simp) rfl).1 (undef) (by rw [hT]; rfl)] at kg
                      rw [if_neg (not_wanted_x rfl rfl rfl kg (by simp [undef]))]
                      exact hJ.plain (by decide) (by decide) (Ex.refl _) (fun x hx => by rw [hT] at hx; change none = some x at hx; cases hx)
                    · have kg := (hdep ⟨23, .guard⟩ (by simp) rfl).2 _ rfl _ rfl
                      rw [show f 23 = _ from hJ.vals 23 (hdep ⟨23, .guard⟩ (by simp) rfl).1 (undef) (by rw [hT]; rfl)] at kg
                      rw [if_neg (not_wanted_x rfl rfl rfl kg (by simp [undef]))]
                      exact hJ.plain (by decide) (by decide) (Ex.refl _) (fun x hx => by rw [hT] at hx; change none = some x at hx; cases hx)
                    · have kg := (hdep ⟨23, .guard⟩ (by simp) rfl).2 _ rfl _ rfl
                      rw [show f 23 = _ from hJ.vals 23 (hdep ⟨23, .guard⟩ (by simp) rfl).1 (undef) (by rw [hT]; rfl)] at kg
                      rw [if_neg (not_wanted_x rfl rfl rfl kg (by simp [undef]))]
                      exact hJ.plain (by decide) (by decide) (Ex.refl _) (fun x hx => by rw [hT] at hx; change none = some x at hx; cases hx)
                    · have kg := (hdep ⟨23, .guard⟩ (by simp) rfl).2 _ rfl _ rfl
                      rw [show f 23 = _ from hJ.vals 23 (hdep ⟨23, .guard⟩ (by simp) rfl).1 (undef) (by rw [hT]; rfl)] at kg
                      rw [if_neg (not_wanted_x rfl rfl rfl kg (by simp [undef]))]
                      exact hJ.plain (by decide) (by decide) (Ex.refl _) (fun x hx => by rw [hT] at hx; change none = some x at hx; cases hx)
                    · have kg := (hdep ⟨17, .guard⟩ (by simp) rfl).2 _ rfl _ rfl
                      rw [show f 17 = _ from hJ.vals 17 (hdep ⟨17, .guard⟩ (by simp) rfl).1 (.bool false) (by rw [hT]; rfl)] at kg
                      rw [if_neg (not_wanted rfl rfl rfl kg (by decide))]
                      exact hJ.plain (by decide) (by decide) (Ex.refl _) (fun x hx => by rw [hT] at hx; change none = some x at hx; cases hx)
                    · have kg := (hdep ⟨10, .guard⟩ (by simp) rfl).2 _ rfl _ rfl
                      rw [show f 10 = _ from hJ.vals 10 (hdep ⟨10, .guard⟩ (by simp) rfl).1 (.bool false) (by rw [hT]; rfl)] at kg
                      rw [if_pos (wanted_of rfl rfl rfl kg)]
                      intro K hK
                      have q112 := (hdep ⟨17, .data⟩ (by simp) rfl).2 _ rfl _ rfl
                      rw [show f 17 = _ from hJ.vals 17 (hdep ⟨17, .data⟩ (by simp) rfl).1 (.bool false) (by rw [hT]; rfl)] at q112
                      have q129 := (hdep ⟨34, .data⟩ (by simp) rfl).2 _ rfl _ rfl
                      rw [Array.getD_eq_getD_getElem?] at q112
                      rw [Array.getD_eq_getD_getElem?] at q129
                      clear hsz hdep hout hlat
                      go_simp
                      exact hK _ _ (hJ.plain (by decide) (by decide) (Ex.refl _) (fun x hx => by rw [hT] at hx; first | exact Option.some.inj hx | simpa using hx))
                    · rw [if_pos (by rfl)]
                      intro K hK
                      have q105 := (hdep ⟨10, .data⟩ (by simp) rfl).2 _ rfl _ rfl
                      rw [show f 10 = _ from hJ.vals 10 (hdep ⟨10, .data⟩ (by simp) rfl).1 (.bool false) (by rw [hT]; rfl)] at q105
                      have q130 := (hdep ⟨35, .data⟩ (by simp) rfl).2 _ rfl _ rfl
                      rw [show f 35 = _ from hJ.vals 35 (hdep ⟨35, .data⟩ (by simp) rfl).1 (.bool false) (by rw [hT]; rfl)] at q130
                      rw [Array.getD_eq_getD_getElem?] at q105
                      rw [Array.getD_eq_getD_getElem?] at q130
                      clear hsz hdep hout hlat
                      go_simp
                      exact hK _ _ (hJ.plain (by decide) (by decide) (Ex.refl _) (fun x hx => by rw [hT] at hx; first | exact Option.some.inj hx | simpa using hx))
                  · intro listed f w2 hall hJ
                    have f0 : f 0 = .int .i64 i := hJ.vals 0 (hall 0 (by simp)) _ (by rw [hT]; rfl)
                    have f1 : f 1 = .int .i64 i := hJ.vals 1 (hall 1 (by simp)) _ (by rw [hT]; rfl)
                    have f2 : f 2 = .bool false := hJ.vals 2 (hall 2 (by simp)) _ (by rw [hT]; rfl)
                    have f3 : f 3 = .bool false := hJ.vals 3 (hall 3 (by simp)) _ (by rw [hT]; rfl)
                    have f9 : f 9 = .bool false := hJ.vals 9 (hall 9 (by simp)) _ (by rw [hT]; rfl)
                    have f10 : f 10 = .bool false := hJ.vals 10 (hall 10 (by simp)) _ (by rw [hT]; rfl)
                    have f11 : f 11 = .int .i64 i := hJ.vals 11 (hall 11 (by simp)) _ (by rw [hT]; rfl)
                    have f12 : f 12 = .int .i64 i := hJ.vals 12 (hall 12 (by simp)) _ (by rw [hT]; rfl)
                    have f13 : f 13 = .bool true := hJ.vals 13 (hall 13 (by simp)) _ (by rw [hT]; rfl)
                    have f14 : f 14 = .bool true := hJ.vals 14 (hall 14 (by simp)) _ (by rw [hT]; rfl)
                    have f15 : f 15 = .bool false := hJ.vals 15 (hall 15 (by simp)) _ (by rw [hT]; rfl)
                    have f16 : f 16 = .bool false := hJ.vals 16 (hall 16 (by simp)) _ (by rw [hT]; rfl)
                    have f17 : f 17 = .bool false := hJ.vals 17 (hall 17 (by simp)) _ (by rw [hT]; rfl)
                    have f23 : f 23 = undef := hJ.vals 23 (hall 23 (by simp)) _ (by rw [hT]; rfl)
                    have f35 : f 35 = .bool false := hJ.vals 35 (hall 35 (by simp)) _ (by rw [hT]; rfl)
                    have f36 : f 36 = .bool false := hJ.vals 36 (hall 36 (by simp)) _ (by rw [hT]; rfl)
                    have xw := hJ.ext
                    simp only [putAll, Act.put, List.setIfInBounds_toArray, List.set_cons_zero, List.set_cons_succ, Nat.zero_add, Nat.reduceAdd]
                    rw [f0, f1, f2, f3, f9, f10, f11, f12, f13, f14, f15, f16, f17, f23, f35, f36]
                    clear f0 f1 f2 f3 f9 f10 f11 f12 f13 f14 f15 f16 f17 f23 f35 f36 hJ hall hT
                    generalize f 4 = y4
                    generalize f 5 = y5
                    generalize f 6 = y6
                    generalize f 7 = y7
                    generalize f 8 = y8
                    generalize f 18 = y18
                    generalize f 19 = y19
                    generalize f 20 = y20
                    generalize f 21 = y21
                    generalize f 22 = y22
                    generalize f 24 = y24
                    generalize f 25 = y25
                    generalize f 26 = y26
                    generalize f 27 = y27
                    generalize f 28 = y28
                    generalize f 29 = y29
                    generalize f 30 = y30
                    generalize f 31 = y31
                    generalize f 32 = y32
                    generalize f 33 = y33
                    generalize f 34 = y34
                    have K8 := Lib.hid (K7.out.ext xw)
                    have D8 := Lib.hid (DK.ext D7.out xw)
                    clear xw K7 D7
                    go_wp2_with fail
                    go_roundw
                    case rel => exact ⟨i + 1, by omega, by go_num, K8, D8⟩
                    case measure => simp [intOf]; omega
                · have hgb : getB (turnC cD k0 t0) i = getB (copyC cD) i := by unfold getB; rw [turn_other cD k0 t0 i hk]; rfl
                  have hgl : getL (turnC cD k0 t0) i = getL (copyC cD) i := by unfold getL; rw [hgb, turn_other cD k0 t0 i hk]; rfl
                  obtain ⟨st, hst⟩ : ∃ s, s = strL (getL (copyC cD) i) := ⟨_, rfl⟩
                  have CV1 := Lib.hid (fun W (x : Ex w7 W) => (show (convert 27 9 (.slice xa xn xc)).run Try.prog W = .ok (.string st) W by
                    have h := pt_conv qx W (Sm.Pt.In.ext Q7.out x)
                    rw [hst, ← hgl, ← QL.out, HXV.out.1, HXV.out.2.1, HXV.out.2.2]; exact h))
                  have CV2 := Lib.hid (fun W (x : Ex w7 W) => (show (convert 27 9 (.slice ya yn yc)).run Try.prog W = .ok (.string st) W by
                    have h := pt_conv qy W (Sm.Pt.In.ext R7.out x)
                    rw [hst, ← RL.out, HYV.out.1, HYV.out.2.1, HYV.out.2.2]; exact h))
                  have HNE := Lib.hid (show ((i : Int) != (k0 : Int)) = true by simp; omega)
                  have HNE2 := Lib.hid (show ((i : Int) == (k0 : Int)) = false by simp; omega)
                  clear hgb hgl hst hk
                  go_wp2_with fail
                  obtain ⟨T, hT⟩ : ∃ T : List (Option Value), T = [some (.int .i64 i), some (.int .i64 k0), some (.bool true), some (.bool true), some (.slice xa xn xc), some (.string st), some (.slice ya yn yc), some (.string st), some (.bool false), some (.bool false), some (.bool false), some (.int .i64 i), some (.int .i64 k0), some (.bool false), some (.bool false), none, some (.bool false), some (.bool false), none, none, none, none, none, some (undef), none, none, none, none, none, none, none, none, none, none, none, some (.bool false), some (.bool false)] := ⟨_, rfl⟩
                  refine wp_region_gen (JL w7 T 1000 1001 0 #[] #[]) (by kernel_rfl) (by kernel_rfl) (by kernel_rfl) (fitB_spec (by kernel_rfl)) (fun listed f h => JL.start _ listed f h) ?_ ?_
                  · intro i o ho
                    have hi : i < 37 := (Array.getElem?_eq_some_iff.1 ho).1
                    have hi' : i = 0 ∨ i = 1 ∨ i = 2 ∨ i = 3 ∨ i = 4 ∨ i = 5 ∨ i = 6 ∨ i = 7 ∨ i = 8 ∨ i = 9 ∨ i = 10 ∨ i = 11 ∨ i = 12 ∨ i = 13 ∨ i = 14 ∨ i = 15 ∨ i = 16 ∨ i = 17 ∨ i = 18 ∨ i = 19 ∨ i = 20 ∨ i = 21 ∨ i = 22 ∨ i = 23 ∨ i = 24 ∨ i = 25 ∨ i = 26 ∨ i = 27 ∨ i = 28 ∨ i = 29 ∨ i = 30 ∨ i = 31 ∨ i = 32 ∨ i = 33 ∨ i = 34 ∨ i = 35 ∨ i = 36 := by omega
                    clear hi
                    rcases hi' with rfl | rfl | rfl | rfl | rfl | rfl | rfl | rfl | rfl | rfl | rfl | rfl | rfl | rfl | rfl | rfl | rfl | rfl | rfl | rfl | rfl | rfl | rfl | rfl | rfl | rfl | rfl | rfl | rfl | rfl | rfl | rfl | rfl | rfl | rfl | rfl | rfl
                    all_goals (simp only [List.getElem?_toArray, List.getElem?_cons_zero, List.getElem?_cons_succ, Option.some.injEq] at ho; subst ho; intro listed f a w2 hJ hsz hls hun hdep hout hlat)
                    · rw [if_pos (by rfl)]
                      intro K hK
                      have q13 := hout 13 (outB_spec (by kernel_rfl))
                      refine wp_mv _ rfl (hK _ _ ?_)
                      rw [show a.eval (.tmp 13) = .int .i64 i from q13]
                      exact hJ.plain (by decide) (by decide) (Ex.refl _) (fun x hx => by rw [hT] at hx; first | exact Option.some.inj hx | simpa using hx)
                    · rw [if_pos (by rfl)]
                      intro K hK
                      have q10 := hout 10 (outB_spec (by kernel_rfl))
                      refine wp_mv _ rfl (hK _ _ ?_)
                      rw [show a.eval (.tmp 10) = .int .i64 k0 from q10]
                      exact hJ.plain (by decide) (by decide) (Ex.refl _) (fun x hx => by rw [hT] at hx; first | exact Option.some.inj hx | simpa using hx)
                    · rw [if_pos (by rfl)]
                      intro K hK
                      have q95 := (hdep ⟨0, .data⟩ (by simp) rfl).2 _ rfl _ rfl
                      rw [show f 0 = _ from hJ.vals 0 (hdep ⟨0, .data⟩ (by simp) rfl).1 (.int .i64 i) (by rw [hT]; rfl)] at q95
                      have q96 := (hdep ⟨1, .data⟩ (by simp) rfl).2 _ rfl _ rfl
                      rw [show f 1 = _ from hJ.vals 1 (hdep ⟨1, .data⟩ (by simp) rfl).1 (.int .i64 k0) (by rw [hT]; rfl)] at q96
                      rw [Array.getD_eq_getD_getElem?] at q95
                      rw [Array.getD_eq_getD_getElem?] at q96
                      have z9 := HNE.out
                      clear hsz hdep hout hlat
                      go_simp
                      exact hK _ _ (hJ.plain (by decide) (by decide) (Ex.refl _) (fun x hx => by rw [hT] at hx; first | exact Option.some.inj hx | simpa using hx))
                    · rw [if_pos (by rfl)]
                      intro K hK
                      have q97 := (hdep ⟨2, .data⟩ (by simp) rfl).2 _ rfl _ rfl
                      rw [show f 2 = _ from hJ.vals 2 (hdep ⟨2, .data⟩ (by simp) rfl).1 (.bool true) (by rw [hT]; rfl)] at q97
                      refine wp_mv _ rfl (hK _ _ ?_)
                      rw [show a.eval (.tmp 97) = .bool true from q97]
                      exact hJ.plain (by decide) (by decide) (Ex.refl _) (fun x hx => by rw [hT] at hx; first | exact Option.some.inj hx | simpa using hx)
                    · have kg := (hdep ⟨3, .guard⟩ (by simp) rfl).2 _ rfl _ rfl
                      rw [show f 3 = _ from hJ.vals 3 (hdep ⟨3, .guard⟩ (by simp) rfl).1 (.bool true) (by rw [hT]; rfl)] at kg
                      rw [if_pos (wanted_of rfl rfl rfl kg)]
                      intro K hK
                      have q14 := hout 14 (outB_spec (by kernel_rfl))
                      refine wp_mv _ rfl (hK _ _ ?_)
                      rw [show a.eval (.tmp 14) = .slice xa xn xc from q14]
                      exact hJ.plain (by decide) (by decide) (Ex.refl _) (fun x hx => by rw [hT] at hx; first | exact Option.some.inj hx | simpa using hx)
                    · have kg := (hdep ⟨3, .guard⟩ (by simp) rfl).2 _ rfl _ rfl
                      rw [show f 3 = _ from hJ.vals 3 (hdep ⟨3, .guard⟩ (by simp) rfl).1 (.bool true) (by rw [hT]; rfl)] at kg
                      rw [if_pos (wanted_of rfl rfl rfl kg)]
                      intro K hK
                      have q99 := (hdep ⟨4, .data⟩ (by simp) rfl).2 _ rfl _ rfl
                      rw [show f 4 = _ from hJ.vals 4 (hdep ⟨4, .data⟩ (by simp) rfl).1 (.slice xa xn xc) (by rw [hT]; rfl)] at q99
                      rw [Array.getD_eq_getD_getElem?] at q99
                      have cc := CV1.out w2 hJ.ext
                      clear hsz hdep hout hlat
                      go_simp
                      exact hK _ _ (hJ.plain (by decide) (by decide) (Ex.refl _) (fun x hx => by rw [hT] at hx; first | exact Option.some.inj hx | simpa using hx))
                    · have kg := (hdep ⟨3, .guard⟩ (by simp) rfl).2 _ rfl _ rfl
                      rw [show f 3 = _ from hJ.vals 3 (hdep ⟨3, .guard⟩ (by simp) rfl).1 (.bool true) (by rw [hT]; rfl)] at kg
                      rw [if_pos (wanted_of rfl rfl rfl kg)]
                      intro K hK
                      have q16 := hout 16 (outB_spec (by kernel_rfl))
                      refine wp_mv _ rfl (hK _ _ ?_)
                      rw [show a.eval (.tmp 16) = .slice ya yn yc from q16]
                      exact hJ.plain (by decide) (by decide) (Ex.refl _) (fun x hx => by rw [hT] at hx; first | exact Option.some.inj hx | simpa using hx)
                    · have kg := (hdep ⟨3, .guard⟩ (by simp) rfl).2 _ rfl _ rfl
                      rw [show f 3 = _ from hJ.vals 3 (hdep ⟨3, .guard⟩ (by simp) rfl).1 (.bool true) (by rw [hT]; rfl)] at kg
                      rw [if_pos (wanted_of rfl rfl rfl kg)]
                      intro K hK
                      have q101 := (hdep ⟨6, .data⟩ (by simp) rfl).2 _ rfl _ rfl
                      rw [show f 6 = _ from hJ.vals 6 (hdep ⟨6, .data⟩ (by simp) rfl).1 (.slice ya yn yc) (by rw [hT]; rfl)] at q101
                      rw [Array.getD_eq_getD_getElem?] at q101
                      have cc := CV2.out w2 hJ.ext
                      clear hsz hdep hout hlat
                      go_simp
                      exact hK _ _ (hJ.plain (by decide) (by decide) (Ex.refl _) (fun x hx => by rw [hT] at hx; first | exact Option.some.inj hx | simpa using hx))
                    · have kg := (hdep ⟨3, .guard⟩ (by simp) rfl).2 _ rfl _ rfl
                      rw [show f 3 = _ from hJ.vals 3 (hdep ⟨3, .guard⟩ (by simp) rfl).1 (.bool true) (by rw [hT]; rfl)] at kg
                      rw [if_pos (wanted_of rfl rfl rfl kg)]
                      intro K hK
                      have q100 := (hdep ⟨5, .data⟩ (by simp) rfl).2 _ rfl _ rfl
                      rw [show f 5 = _ from hJ.vals 5 (hdep ⟨5, .data⟩ (by simp) rfl).1 (.string st) (by rw [hT]; rfl)] at q100
                      have q102 := (hdep ⟨7, .data⟩ (by simp) rfl).2 _ rfl _ rfl
                      rw [show f 7 = _ from hJ.vals 7 (hdep ⟨7, .data⟩ (by simp) rfl).1 (.string st) (by rw [hT]; rfl)] at q102
                      rw [Array.getD_eq_getD_getElem?] at q100
                      rw [Array.getD_eq_getD_getElem?] at q102
                      clear hsz hdep hout hlat
                      go_simp
                      exact hK _ _ (hJ.plain (by decide) (by decide) (Ex.refl _) (fun x hx => by rw [hT] at hx; first | exact Option.some.inj hx | simpa using hx))
                    · rw [if_pos (by rfl)]
                      intro K hK
                      have q98 := (hdep ⟨3, .data⟩ (by simp) rfl).2 _ rfl _ rfl
                      rw [show f 3 = _ from hJ.vals 3 (hdep ⟨3, .data⟩ (by simp) rfl).1 (.bool true) (by rw [hT]; rfl)] at q98
                      have q103 := (hdep ⟨8, .data⟩ (by simp) rfl).2 _ rfl _ rfl
                      rw [show f 8 = _ from hJ.vals 8 (hdep ⟨8, .data⟩ (by simp) rfl).1 (.bool false) (by rw [hT]; rfl)] at q103
                      rw [Array.getD_eq_getD_getElem?] at q98
                      rw [Array.getD_eq_getD_getElem?] at q103
                      clear hsz hdep hout hlat
                      go_simp
                      exact hK _ _ (hJ.plain (by decide) (by decide) (Ex.refl _) (fun x hx => by rw [hT] at hx; first | exact Option.some.inj hx | simpa using hx))
                    · rw [if_pos (by rfl)]
                      intro K hK
                      have q104 := (hdep ⟨9, .data⟩ (by simp) rfl).2 _ rfl _ rfl
                      rw [show f 9 = _ from hJ.vals 9 (hdep ⟨9, .data⟩ (by simp) rfl).1 (.bool false) (by rw [hT]; rfl)] at q104
                      refine wp_mv _ rfl (hK _ _ ?_)
                      rw [show a.eval (.tmp 104) = .bool false from q104]
                      exact hJ.plain (by decide) (by decide) (Ex.refl _) (fun x hx => by rw [hT] at hx; first | exact Option.some.inj hx | simpa using hx)
                    · have kg := (hdep ⟨10, .guard⟩ (by simp) rfl).2 _ rfl _ rfl
                      rw [show f 10 = _ from hJ.vals 10 (hdep ⟨10, .guard⟩ (by simp) rfl).1 (.bool false) (by rw [hT]; rfl)] at kg
                      rw [if_pos (wanted_of rfl rfl rfl kg)]
                      intro K hK
                      have q13 := hout 13 (outB_spec (by kernel_rfl))
                      refine wp_mv _ rfl (hK _ _ ?_)
                      rw [show a.eval (.tmp 13) = .int .i64 i from q13]
                      exact hJ.plain (by decide) (by decide) (Ex.refl _) (fun x hx => by rw [hT] at hx; first | exact Option.some.inj hx | simpa using hx)
                    · have kg := (hdep ⟨10, .guard⟩ (by simp) rfl).2 _ rfl _ rfl
                      rw [show f 10 = _ from hJ.vals 10 (hdep ⟨10, .guard⟩ (by simp) rfl).1 (.bool false) (by rw [hT]; rfl)] at kg
                      rw [if_pos (wanted_of rfl rfl rfl kg)]
                      intro K hK
                      have q10 := hout 10 (outB_spec (by kernel_rfl))
                      refine wp_mv _ rfl (hK _ _ ?_)
                      rw [show a.eval (.tmp 10) = .int .i64 k0 from q10]
                      exact hJ.plain (by decide) (by decide) (Ex.refl _) (fun x hx => by rw [hT] at hx; first | exact Option.some.inj hx | simpa using hx)
                    · have kg := (hdep ⟨10, .guard⟩ (by simp) rfl).2 _ rfl _ rfl
                      rw [show f 10 = _ from hJ.vals 10 (hdep ⟨10, .guard⟩ (by simp) rfl).1 (.bool false) (by rw [hT]; rfl)] at kg
                      rw [if_pos (wanted_of rfl rfl rfl kg)]
                      intro K hK
                      have q106 := (hdep ⟨11, .data⟩ (by simp) rfl).2 _ rfl _ rfl
                      rw [show f 11 = _ from hJ.vals 11 (hdep ⟨11, .data⟩ (by simp) rfl).1 (.int .i64 i) (by rw [hT]; rfl)] at q106
                      have q107 := (hdep ⟨12, .data⟩ (by simp) rfl).2 _ rfl _ rfl
                      rw [show f 12 = _ from hJ.vals 12 (hdep ⟨12, .data⟩ (by simp) rfl).1 (.int .i64 k0) (by rw [hT]; rfl)] at q107
                      rw [Array.getD_eq_getD_getElem?] at q106
                      rw [Array.getD_eq_getD_getElem?] at q107
                      have z9 := HNE2.out
                      clear hsz hdep hout hlat
                      go_simp
                      exact hK _ _ (hJ.plain (by decide) (by decide) (Ex.refl _) (fun x hx => by rw [hT] at hx; first | exact Option.some.inj hx | simpa using hx))
                    · have kg := (hdep ⟨10, .guard⟩ (by simp) rfl).2 _ rfl _ rfl
                      rw [show f 10 = _ from hJ.vals 10 (hdep ⟨10, .guard⟩ (by simp) rfl).1 (.bool false) (by rw [hT]; rfl)] at kg
                      rw [if_pos (wanted_of rfl rfl rfl kg)]
                      intro K hK
                      have q108 := (hdep ⟨13, .data⟩ (by simp) rfl).2 _ rfl _ rfl
                      rw [show f 13 = _ from hJ.vals 13 (hdep ⟨13, .data⟩ (by simp) rfl).1 (.bool false) (by rw [hT]; rfl)] at q108
                      refine wp_mv _ rfl (hK _ _ ?_)
                      rw [show a.eval (.tmp 108) = .bool false from q108]
                      exact hJ.plain (by decide) (by decide) (Ex.refl _) (fun x hx => by rw [hT] at hx; first | exact Option.some.inj hx | simpa using hx)
                    · have kg := (hdep ⟨14, .guard⟩ (by simp) rfl).2 _ rfl _ rfl
                      rw [show f 14 = _ from hJ.vals 14 (hdep ⟨14, .guard⟩ (by simp) rfl).1 (.bool false) (by rw [hT]; rfl)] at kg
                      rw [if_neg (not_wanted rfl rfl rfl kg (by decide))]
                      exact hJ.plain (by decide) (by decide) (Ex.refl _) (fun x hx => by rw [hT] at hx; change none = some x at hx; cases hx)
                    · have kg := (hdep ⟨10, .guard⟩ (by simp) rfl).2 _ rfl _ rfl
                      rw [show f 10 = _ from hJ.vals 10 (hdep ⟨10, .guard⟩ (by simp) rfl).1 (.bool false) (by rw [hT]; rfl)] at kg
                      rw [if_pos (wanted_of rfl rfl rfl kg)]
                      intro K hK
                      have q109 := (hdep ⟨14, .data⟩ (by simp) rfl).2 _ rfl _ rfl
                      rw [show f 14 = _ from hJ.vals 14 (hdep ⟨14, .data⟩ (by simp) rfl).1 (.bool false) (by rw [hT]; rfl)] at q109
                      have q110 := (hdep ⟨15, .data⟩ (by simp) rfl).2 _ rfl _ rfl
                      rw [Array.getD_eq_getD_getElem?] at q109
                      rw [Array.getD_eq_getD_getElem?] at q110
                      clear hsz hdep hout hlat
                      go_simp
                      exact hK _ _ (hJ.plain (by decide) (by decide) (Ex.refl _) (fun x hx => by rw [hT] at hx; first | exact Option.some.inj hx | simpa using hx))
                    · have kg := (hdep ⟨10, .guard⟩ (by simp) rfl).2 _ rfl _ rfl
                      rw [show f 10 = _ from hJ.vals 10 (hdep ⟨10, .guard⟩ (by simp) rfl).1 (.bool false) (by rw [hT]; rfl)] at kg
                      rw [if_pos (wanted_of rfl rfl rfl kg)]
                      intro K hK
                      have q111 := (hdep ⟨16, .data⟩ (by simp) rfl).2 _ rfl _ rfl
                      rw [show f 16 = _ from hJ.vals 16 (hdep ⟨16, .data⟩ (by simp) rfl).1 (.bool false) (by rw [hT]; rfl)] at q111
                      refine wp_mv _ rfl (hK _ _ ?_)
                      rw [show a.eval (.tmp 111) = .bool false from q111]
                      exact hJ.plain (by decide) (by decide) (Ex.refl _) (fun x hx => by rw [hT] at hx; first | exact Option.some.inj hx | simpa using hx)
                    · have kg := (hdep ⟨17, .guard⟩ (by simp) rfl).2 _ rfl _ rfl
                      rw [show f 17 = _ from hJ.vals 17 (hdep ⟨17, .guard⟩ (by simp) rfl).1 (.bool false) (by rw [hT]; rfl)] at kg
                      rw [if_neg (not_wanted rfl rfl rfl kg (by decide))]
                      exact hJ.plain (by decide) (by decide) (Ex.refl _) (fun x hx => by rw [hT] at hx; change none = some x at hx; cases hx)
                    · have kg := (hdep ⟨17, .guard⟩ (by simp) rfl).2 _ rfl _ rfl
                      rw [show f 17 = _ from hJ.vals 17 (hdep ⟨17, .guard⟩ (by simp) rfl).1 (.bool false) (by rw [hT]; rfl)] at kg
                      rw [if_neg (not_wanted rfl rfl rfl kg (by decide))]
                      exact hJ.plain (by decide) (by decide) (Ex.refl _) (fun x hx => by rw [hT] at hx; change none = some x at hx; cases hx)
                    · have kg := (hdep ⟨17, .guard⟩ (by simp) rfl).2 _ rfl _ rfl
                      rw [show f 17 = _ from hJ.vals 17 (hdep ⟨17, .guard⟩ (by simp) rfl).1 (.bool false) (by rw [hT]; rfl)] at kg
                      rw [if_neg (not_wanted rfl rfl rfl kg (by decide))]
                      exact hJ.plain (by decide) (by decide) (Ex.refl _) (fun x hx => by rw [hT] at hx; change none = some x at hx; cases hx)
                    · have kg := (hdep ⟨17, .guard⟩ (by simp) rfl).2 _ rfl _ rfl
                      rw [show f 17 = _ from hJ.vals 17 (hdep ⟨17, .guard⟩ (by simp) rfl).1 (.bool false) (by rw [hT]; rfl)] at kg
                      rw [if_neg (not_wanted rfl rfl rfl kg (by decide))]
                      exact hJ.plain (by decide) (by decide) (Ex.refl _) (fun x hx => by rw [hT] at hx; change none = some x at hx; cases hx)
                    · have kg := (hdep ⟨17, .guard⟩ (by simp) rfl).2 _ rfl _ rfl
                      rw [show f 17 = _ from hJ.vals 17 (hdep ⟨17, .guard⟩ (by simp) rfl).1 (.bool false) (by rw [hT]; rfl)] at kg
                      rw [if_neg (not_wanted rfl rfl rfl kg (by decide))]
                      exact hJ.plain (by decide) (by decide) (Ex.refl _) (fun x hx => by rw [hT] at hx; change none = some x at hx; cases hx)
                    · have kg := (hdep ⟨17, .guard⟩ (by simp) rfl).2 _ rfl _ rfl
                      rw [show f 17 = _ from hJ.vals 17 (hdep ⟨17, .guard⟩ (by simp) rfl).1 (.bool false) (by rw [hT]; rfl)] at kg
                      rw [if_neg (not_wanted rfl rfl rfl kg (by decide))]
                      exact hJ.plain (by decide) (by decide) (Ex.refl _) (fun x hx => by rw [hT] at hx; first | exact Option.some.inj hx | simpa using hx)
                    · have kg := (hdep ⟨23, .guard⟩ (by simp) rfl).2 _ rfl _ rfl
                      rw [show f 23 = _ from hJ.vals 23 (hdep ⟨23, .guard⟩ (by simp) rfl).1 (undef) (by rw [hT]; rfl)] at kg
                      rw [if_neg (not_wanted_x rfl rfl rfl kg (by simp [undef]))]
                      exact hJ.plain (by decide) (by decide) (Ex.refl _) (fun x hx => by rw [hT] at hx; change none = some x at hx; cases hx)
                    · have kg := (hdep ⟨23, .guard⟩ (by simp) rfl).2 _ rfl _ rfl
                      rw [show f 23 = _ from hJ.vals 23 (hdep ⟨23, .guard⟩ (by simp) rfl).1 (undef) (by rw [hT]; rfl)] at kg
                      rw [if_neg (not_wanted_x rfl rfl rfl kg (by simp [undef]))]
                      exact hJ.plain (by decide) (by decide) (Ex.refl _) (fun x hx => by rw [hT] at hx; change none = some x at hx; cases hx)
                    · have kg := (hdep ⟨23, .guard⟩ (by simp) rfl).2 _ rfl _ rfl
                      rw [show f 23 = _ from hJ.vals 23 (hdep ⟨23, .guard⟩ (by simp) rfl).1 (undef) (by rw [hT]; rfl)] at kg
                      rw [if_neg (not_wanted_x rfl rfl rfl kg (by simp [undef]))]
                      exact hJ.plain (by decide) (by decide) (Ex.refl _) (fun x hx => by rw [hT] at hx; change none = some x at hx; cases hx)
                    · have kg := (hdep ⟨23, .guard⟩ (by simp) rfl).2 _ rfl _ rfl
                      rw [show f 23 = _ from hJ.vals 23 (hdep ⟨23, .guard⟩ (by simp) rfl).1 (undef) (by rw [hT]; rfl)] at kg
                      rw [if_neg (not_wanted_x rfl rfl rfl kg (by simp [undef]))]
                      exact hJ.plain (by decide) (by decide) (Ex.refl _) (fun x hx => by rw [hT] at hx; change none = some x at hx; cases hx)
                    · have kg := (hdep ⟨23, .guard⟩ (by simp) rfl).2 _ rfl _ rfl
                      rw [show f 23 = _ from hJ.vals 23 (hdep ⟨23, .guard⟩ (by simp) rfl).1 (undef) (by rw [hT]; rfl)] at kg
                      rw [if_neg (not_wanted_x rfl rfl rfl kg (by simp [undef]))]
                      exact hJ.plain (by decide) (by decide) (Ex.refl _) (fun x hx => by rw [hT] at hx; change none = some x at hx; cases hx)
                    · have kg := (hdep ⟨23, .guard⟩ (by simp) rfl).2 _ rfl _ rfl
                      rw [show f 23 = _ from hJ.vals 23 (hdep ⟨23, .guard⟩ (by simp) rfl).1 (undef) (by rw [hT]; rfl)] at kg
                      rw [if_neg (not_wanted_x rfl rfl rfl kg (by simp [undef]))]
                      exact hJ.plain (by decide) (by decide) (Ex.refl _) (fun x hx => by rw [hT] at hx; change none = some x at hx; cases hx)
                    · have kg := (hdep ⟨23, .guard⟩ (by simp) rfl).2 _ rfl _ rfl
                      rw [show f 23 = _ from hJ.vals 23 (hdep ⟨23, .guard⟩ (by simp) rfl).1 (undef) (by rw [hT]; rfl)] at kg
                      rw [if_neg (not_wanted_x rfl rfl rfl kg (by simp [undef]))]
                      exact hJ.plain (by decide) (by decide) (Ex.refl _) (fun x hx => by rw [hT] at hx; change none = some x at hx; cases hx)
                    · have kg := (hdep ⟨23, .guard⟩ (by simp) rfl).2 _ rfl _ rfl
                      rw [show f 23 = _ from hJ.vals 23 (hdep ⟨23, .guard⟩ (by simp) rfl).1 (undef) (by rw [hT]; rfl)] at kg
                      rw [if_neg (not_wanted_x rfl rfl rfl kg (by simp [undef]))]
                      exact hJ.plain (by decide) (by decide) (Ex.refl _) (fun x hx => by rw [hT] at hx; change none = some x at hx; cases hx)
                    · have kg := (hdep ⟨23, .guard⟩ (by simp) rfl).2 _ rfl _ rfl
                      rw [show f 23 = _ from hJ.vals 23 (hdep ⟨23, .guard⟩ (by simp) rfl).1 (undef) (by rw [hT]; rfl)] at kg
                      rw [if_neg (not_wanted_x rfl rfl rfl kg (by simp [undef]))]
                      exact hJ.plain (by decide) (by decide) (Ex.refl _) (fun x hx => by rw [hT] at hx; change none = some x at hx; cases hx)
                    · have kg := (hdep ⟨23, .guard⟩ (by simp) rfl).2 _ rfl _ rfl
                      rw [show f 23 = _ from hJ.vals 23 (hdep ⟨23, .guard⟩ (by simp) rfl).1 (undef) (by rw [hT]; rfl)] at kg
                      rw [if_neg (not_wanted_x rfl rfl rfl kg (by simp [undef]))]
                      exact hJ.plain (by decide) (by decide) (Ex.refl _) (fun x hx => by rw [hT] at hx; change none = some x at hx; cases hx)
                    · have kg := (hdep ⟨17, .guard⟩ (by simp) rfl).2 _ rfl _ rfl
                      rw [show f 17 = _ from hJ.vals 17 (hdep ⟨17, .guard⟩ (by simp) rfl).1 (.bool false) (by rw [hT]; rfl)] at kg
                      rw [if_neg (not_wanted rfl rfl rfl kg (by decide))]
                      exact hJ.plain (by decide) (by decide) (Ex.refl _) (fun x hx => by rw [hT] at hx; change none = some x at hx; cases hx)
                    · have kg := (hdep ⟨10, .guard⟩ (by simp) rfl).2 _ rfl _ rfl
                      rw [show f 10 = _ from hJ.vals 10 (hdep ⟨10, .guard⟩ (by simp) rfl).1 (.bool false) (by rw [hT]; rfl)] at kg
                      rw [if_pos (wanted_of rfl rfl rfl kg)]
                      intro K hK
                      have q112 := (hdep ⟨17, .data⟩ (by simp) rfl).2 _ rfl _ rfl
                      rw [show f 17 = _ from hJ.vals 17 (hdep ⟨17, .data⟩ (by simp) rfl).1 (.bool false) (by rw [hT]; rfl)] at q112
                      have q129 := (hdep ⟨34, .data⟩ (by simp) rfl).2 _ rfl _ rfl
                      rw [Array.getD_eq_getD_getElem?] at q112
                      rw [Array.getD_eq_getD_getElem?] at q129
                      clear hsz hdep hout hlat
                      go_simp
                      exact hK _ _ (hJ.plain (by decide) (by decide) (Ex.refl _) (fun x hx => by rw [hT] at hx; first | exact Option.some.inj hx | simpa using hx))
                    · rw [if_pos (by rfl)]
                      intro K hK
                      have q105 := (hdep ⟨10, .data⟩ (by simp) rfl).2 _ rfl _ rfl
                      rw [show f 10 = _ from hJ.vals 10 (hdep ⟨10, .data⟩ (by simp) rfl).1 (.bool false) (by rw [hT]; rfl)] at q105
                      have q130 := (hdep ⟨35, .data⟩ (by simp) rfl).2 _ rfl _ rfl
                      rw [show f 35 = _ from hJ.vals 35 (hdep ⟨35, .data⟩ (by simp) rfl).1 (.bool false) (by rw [hT]; rfl)] at q130
                      rw [Array.getD_eq_getD_getElem?] at q105
                      rw [Array.getD_eq_getD_getElem?] at q130
                      clear hsz hdep hout hlat
                      go_simp
                      exact hK _ _ (hJ.plain (by decide) (by decide) (Ex.refl _) (fun x hx => by rw [hT] at hx; first | exact Option.some.inj hx | simpa using hx))
                  · intro listed f w2 hall hJ
                    have f0 : f 0 = .int .i64 i := hJ.vals 0 (hall 0 (by simp)) _ (by rw [hT]; rfl)
                    have f1 : f 1 = .int .i64 k0 := hJ.vals 1 (hall 1 (by simp)) _ (by rw [hT]; rfl)
                    have f2 : f 2 = .bool true := hJ.vals 2 (hall 2 (by simp)) _ (by rw [hT]; rfl)
                    have f3 : f 3 = .bool true := hJ.vals 3 (hall 3 (by simp)) _ (by rw [hT]; rfl)
                    have f4 : f 4 = .slice xa xn xc := hJ.vals 4 (hall 4 (by simp)) _ (by rw [hT]; rfl)
                    have f5 : f 5 = .string st := hJ.vals 5 (hall 5 (by simp)) _ (by rw [hT]; rfl)
                    have f6 : f 6 = .slice ya yn yc := hJ.vals 6 (hall 6 (by simp)) _ (by rw [hT]; rfl)
                    have f7 : f 7 = .string st := hJ.vals 7 (hall 7 (by simp)) _ (by rw [hT]; rfl)
                    have f8 : f 8 = .bool false := hJ.vals 8 (hall 8 (by simp)) _ (by rw [hT]; rfl)
                    have f9 : f 9 = .bool false := hJ.vals 9 (hall 9 (by simp)) _ (by rw [hT]; rfl)
                    have f10 : f 10 = .bool false := hJ.vals 10 (hall 10 (by simp)) _ (by rw [hT]; rfl)
                    have f11 : f 11 = .int .i64 i := hJ.vals 11 (hall 11 (by simp)) _ (by rw [hT]; rfl)
                    have f12 : f 12 = .int .i64 k0 := hJ.vals 12 (hall 12 (by simp)) _ (by rw [hT]; rfl)
                    have f13 : f 13 = .bool false := hJ.vals 13 (hall 13 (by simp)) _ (by rw [hT]; rfl)
                    have f14 : f 14 = .bool false := hJ.vals 14 (hall 14 (by simp)) _ (by rw [hT]; rfl)
                    have f16 : f 16 = .bool false := hJ.vals 16 (hall 16 (by simp)) _ (by rw [hT]; rfl)
                    have f17 : f 17 = .bool false := hJ.vals 17 (hall 17 (by simp)) _ (by rw [hT]; rfl)
                    have f23 : f 23 = undef := hJ.vals 23 (hall 23 (by simp)) _ (by rw [hT]; rfl)
                    have f35 : f 35 = .bool false := hJ.vals 35 (hall 35 (by simp)) _ (by rw [hT]; rfl)
                    have f36 : f 36 = .bool false := hJ.vals 36 (hall 36 (by simp)) _ (by rw [hT]; rfl)
                    have xw := hJ.ext
                    simp only [putAll, Act.put, List.setIfInBounds_toArray, List.set_cons_zero, List.set_cons_succ, Nat.zero_add, Nat.reduceAdd]
                    rw [f0, f1, f2, f3, f4, f5, f6, f7, f8, f9, f10, f11, f12, f13, f14, f16, f17, f23, f35, f36]
                    clear f0 f1 f2 f3 f4 f5 f6 f7 f8 f9 f10 f11 f12 f13 f14 f16 f17 f23 f35 f36 hJ hall hT
                    generalize f 15 = y15
                    generalize f 18 = y18
                    generalize f 19 = y19
                    generalize f 20 = y20
                    generalize f 21 = y21
                    generalize f 22 = y22
                    generalize f 24 = y24
                    generalize f 25 = y25
                    generalize f 26 = y26
                    generalize f 27 = y27
                    generalize f 28 = y28
                    generalize f 29 = y29
                    generalize f 30 = y30
                    generalize f 31 = y31
                    generalize f 32 = y32
                    generalize f 33 = y33
                    generalize f 34 = y34
                    have K8 := Lib.hid (K7.out.ext xw)
                    have D8 := Lib.hid (DK.ext D7.out xw)
                    clear xw K7 D7
                    go_wp2_with fail
                    go_roundw
                    case rel => exact ⟨i + 1, by omega, by go_num, K8, D8⟩
                    case measure => simp [intOf]; omega
              · obtain rfl : i = 10 := by omega
                have TG := Lib.hid (turn_any7 g k0 HK10.out t0 (turnC cD k0 t0) wr K.out.dk (by
                  by_cases hy : t0 < (cD.now.getD k0 (false, [])).2.length
                  · rw [TW.out.2.1 hy, getD_set, if_pos ⟨rfl, by rw [ND.out]; exact HK10.out⟩]
                    show (flipA _ _).length ≤ _
                    unfold flipA; rw [List.length_set]; have := LN.out k0; omega
                  · rw [TW.out.2.2 hy]; have := LN.out k0; omega))
                rw [TT.out.1] at TG
                go_wp2_with fail
                refine TG.out.mono ?_
                rintro e w6 ⟨rfl, hk6, m6⟩
                have D6 := Lib.hid (DK.md D9.out K.out.dk m6 GN.out)
                have K6 := Lib.hid (K.out.md m6 hk6)
                have S1 := Lib.hid (show Calls Try.prog 22 #[.pointer (some ⟨g, 0, none⟩), .pointer (some ⟨g9, 0, none⟩)] w6 fun e w' => e = .returned (.bool true) ∧ Below w6.heap.size w6 w' by
                  have h := same7_any g g9 (turnC (turnC cD k0 t0) k0 t0) (copyC cD) w6 K6.out.dk D6.out
                  rw [show decide ((turnC (turnC cD k0 t0) k0 t0).now = (copyC cD).now) = true from decide_eq_true TT.out.2] at h; exact h)
                have BW6 := Lib.hid (show Ex w w6 from K6.out.bel)
                clear TG K D9 hk6 m6 D6 K6
                go_wp2_with fail
                refine S1.out.mono ?_
                rintro e w7 ⟨rfl, x7⟩
                have BW7 := Lib.hid (Ex.trans BW6.out x7)
                clear S1 x7
                go_wp2_with fail
                refine (KN.out w7).mono ?_
                rintro e w8 ⟨rfl, x8⟩
                have BWF := Ex.trans BW7.out x8
                clear x8
                go_wp2_with fail
                go_ret
                exact ⟨rfl, BWF⟩
          · have z3 : (t0 : Int) < (mn : Int) := by have := of_decide_eq_true HTM.out.symm; omega
            have z5 := HTM.out.symm
            clear HTM
            go_wp2_with fail
            have z6 : decide ((t0 : Int) < (mn : Int)) = true := decide_eq_true (by omega)
            first | rw [z6] | simp only [z5, z6] | skip
            clear z5 z6 z3
            refine TN.out.mono ?_
            rintro e w5 ⟨rfl, hk5, m5⟩
            have D5 := Lib.hid (DK.md D9.out K3.out.dk m5 GN.out)
            have K5 := Lib.hid (show Kp w g (turnC cD k0 t0) w5 from K3.out.md m5 hk5)
            have S1 := Lib.hid (show Calls Try.prog 22 #[.pointer (some ⟨g, 0, none⟩), .pointer (some ⟨g9, 0, none⟩)] w5 fun e w' => e = .returned (.bool false) ∧ Below w5.heap.size w5 w' by
              have h := same7_any g g9 (turnC cD k0 t0) (copyC cD) w5 K5.out.dk D5.out
              rw [show decide ((turnC cD k0 t0).now = (copyC cD).now) = !true from TD.out] at h; exact h)
            clear TN K3 D9 hk5 m5 TD
            go_wp2_with fail
            refine S1.out.mono ?_
            rintro e w6 ⟨rfl, x6⟩
            have K6 := Lib.hid (K5.out.ext x6)
            have D6 := Lib.hid (DK.ext D5.out x6)
            clear S1 K5 D5 x6
            go_wp2_with fail
            go_loopw [13] (fun iv wr => ∃ (i : Nat), i ≤ 10 ∧ iv = .int .i64 i ∧ Hid (Kp w g (turnC cD k0 t0) wr) ∧ Hid (DK wr g9 (copyC cD))) (fun iv _ => 10 - (intOf iv).toNat)
            case atStart => exact ⟨0, by omega, rfl, K6, D6⟩
            case round =>
              clear K6 D6
              obtain ⟨i, hi, rfl, K, D9⟩ := hrel
              by_cases hi10 : i < 10
              · have q0 : (0 : Int) ≤ (i : Int) := by omega
                have q1 : (i : Int) < 10 := by omega
                have lw : ((copyC cD).now.getD i (false, [])).2.length ≤ 1000000 := by have := LN.out i; show (cD.now.getD i (false, [])).2.length ≤ _; omega
                have lc : ((turnC cD k0 t0).now.getD i (false, [])).2.length ≤ 1000000 := by
                  by_cases hk : i = k0
                  · subst hk
                    by_cases hy : t0 < (cD.now.getD i (false, [])).2.length
                    · rw [TW.out.2.1 hy, getD_set, if_pos ⟨rfl, by rw [ND.out]; exact hi10⟩]
                      show (flipA _ _).length ≤ _
                      unfold flipA; rw [List.length_set]; have := LN.out i; omega
                    · rw [TW.out.2.2 hy]; have := LN.out i; omega
                  · rw [turn_other cD k0 t0 i hk]; have := LN.out i; omega
                have G1 := Lib.hid (get_any g i hi10 (turnC cD k0 t0) wr K.out.dk lc)
                have G2 := Lib.hid (fun W (h : DK W g9 (copyC cD)) => get_any g9 i hi10 (copyC cD) W h lw)
                have HI := Lib.hid hi10
                clear lw lc hi10
                go_wp2_with fail
                refine G1.out.mono ?_
                rintro e w6 ⟨qx, rfl, hql, hqi, x6⟩
                have K6 := Lib.hid (K.out.ext x6)
                have D6 := Lib.hid (DK.ext D9.out x6)
                have Q6 := Lib.hid hqi
                have QL := Lib.hid hql
                have G3 := Lib.hid (G2.out w6 D6.out)
                clear G1 G2 K D9 hql hqi x6
                go_wp2_with fail
                refine G3.out.mono ?_
                rintro e w7 ⟨qy, rfl, hql, hqi, x7⟩
                have K7 := Lib.hid (K6.out.ext x7)
                have D7 := Lib.hid (DK.ext D6.out x7)
                have Q7 := Lib.hid (Sm.Pt.In.ext Q6.out x7)
                have R7 := Lib.hid hqi
                have RL := Lib.hid hql
                clear G3 K6 D6 Q6 hql hqi x7
                obtain ⟨xa, xn, xc, hxv⟩ : ∃ (a : Option Addr) (n c : Nat), a = qx.ad ∧ n = qx.l.length ∧ c = qx.cap := ⟨_, _, _, rfl, rfl, rfl⟩
                obtain ⟨ya, yn, yc, hyv⟩ : ∃ (a : Option Addr) (n c : Nat), a = qy.ad ∧ n = qy.l.length ∧ c = qy.cap := ⟨_, _, _, rfl, rfl, rfl⟩
                have VX := Lib.hid (show qx.V = .slice xa xn xc by rw [hxv.1, hxv.2.1, hxv.2.2]; rfl)
                have VY := Lib.hid (show qy.V = .slice ya yn yc by rw [hyv.1, hyv.2.1, hyv.2.2]; rfl)
                have HXV := Lib.hid hxv
                have HYV := Lib.hid hyv
                rw [VX.out, VY.out]
                clear hxv hyv
                generalize getB (turnC cD k0 t0) i = bb1
                generalize getB (copyC cD) i = bb2
                by_cases hk : i = k0
                · subst hk
                  have hy : t0 < (cD.now.getD i (false, [])).2.length := by have h := TW.out.1; rw [← HTH.out] at h; exact of_decide_eq_true h.symm
                  have hb : (cD.now.getD i (false, [])).1 = true := by
                    by_cases h : i < ka
                    · rw [AT.out i, if_pos h]
                    · exfalso; rw [AT.out i, if_neg h] at hy; simp at hy
                  have hc1 : getL (copyC cD) i = (cD.now.getD i (false, [])).2 := by
                    unfold getL getB
                    show (if (cD.now.getD i (false, [])).1 = true then (cD.now.getD i (false, [])).2 else []) = _
                    rw [if_pos hb]
                  have he : (turnC cD i t0).now.getD i (false, []) = ((cD.now.getD i (false, [])).1, flipA (cD.now.getD i (false, [])).2 t0) := by rw [TW.out.2.1 hy, getD_set, if_pos ⟨rfl, by rw [ND.out]; exact HI.out⟩]
                  have hc2 : getL (turnC cD i t0) i = flipA (cD.now.getD i (false, [])).2 t0 := by
                    unfold getL getB
                    rw [he, if_pos hb]
                  have hl2 : (flipA (cD.now.getD i (false, [])).2 t0).length = (cD.now.getD i (false, [])).2.length := by unfold flipA; rw [List.length_set]
                  have hy1 : t0 < qx.l.length := by rw [QL.out, hc2, hl2]; exact hy
                  have hy2 : t0 < qy.l.length := by rw [RL.out, hc1]; exact hy
                  obtain ⟨xg, xo, e1, hg1, hr1⟩ := Q7.out.read (by omega)
                  obtain ⟨yg, yo, e2, hg2, hr2⟩ := R7.out.read (by omega)
                  obtain ⟨b1, hb1⟩ : ∃ b : Int, b = ((qx.l.getD t0 0).toNat : Int) := ⟨_, rfl⟩
                  obtain ⟨b2, hb2⟩ : ∃ b : Int, b = ((qy.l.getD t0 0).toNat : Int) := ⟨_, rfl⟩
                  have CB1 := Lib.hid (show w7.cell? ⟨xg, xo + t0, none⟩ = some (.int .u8 b1) by rw [hb1]; exact hr1 t0 hy1)
                  have CB2 := Lib.hid (show w7.cell? ⟨yg, yo + t0, none⟩ = some (.int .u8 b2) by rw [hb2]; exact hr2 t0 hy2)
                  have Lxg := Lib.hid hg1
                  have Lyg := Lib.hid hg2
                  have XOR := Lib.hid (show bits .xor .u8 b1 b2 = 1 by
                    rw [hb1, hb2, QL.out, hc2, RL.out, hc1, flip_at _ t0 hy]; exact (xor_all _).2.2)
                  have hxy : xn = yn := by rw [HXV.out.2.1, HYV.out.2.1, QL.out, RL.out, hc2, hc1, hl2]
                  have T0 := Lib.hid (show (0 : Int) ≤ (t0 : Int) by omega)
                  have T1 := Lib.hid (show (t0 : Int) < (xn : Int) by have := HXV.out.2.1; omega)
                  have hxa : xa = some ⟨xg, xo, none⟩ := HXV.out.1.trans e1
                  have hya : ya = some ⟨yg, yo, none⟩ := HYV.out.1.trans e2
                  clear VX VY HXV HYV
                  subst hxy
                  subst hxa
                  subst hya
                  clear hy hb hc1 he hc2 hl2 hy1 hy2 e1 e2 hg1 hg2 hr1 hr2 hb1 hb2
                  go_wp2_with fail
                  obtain ⟨T, hT⟩ : ∃ T : List (Option Value), T = [some (.int .i64 i), some (.int .i64 i), some (.bool false), some (.bool false), none, none, none, none, none, some (.bool false), some (.bool false), some (.int .i64 i), some (.int .i64 i), some (.bool true), some (.bool true), some (.bool true), some (.bool true), some (.bool true), some (.slice (some ⟨xg, xo, none⟩) xn xc), some (.int .i64 xn), some (.slice (some ⟨yg, yo, none⟩) xn yc), some (.int .i64 xn), some (.bool false), some (.bool false), some (.slice (some ⟨xg, xo, none⟩) xn xc), some (.int .i64 t0), some (.pointer (some ⟨xg, xo + t0, none⟩)), some (.int .u8 b1), some (.slice (some ⟨yg, yo, none⟩) xn yc), some (.int .i64 t0), some (.pointer (some ⟨yg, yo + t0, none⟩)), some (.int .u8 b2), some (.int .u8 1), some (.bool false), some (.bool false), some (.bool false), some (.bool false)] := ⟨_, rfl⟩
                  refine wp_region_gen (JL w7 T 1000 1001 0 #[] #[]) (by kernel_rfl) (by kernel_rfl) (by kernel_rfl) (fitB_spec (by kernel_rfl)) (fun listed f h => JL.start _ listed f h) ?_ ?_
                  · intro i o ho
                    have hi : i < 37 := (Array.getElem?_eq_some_iff.1 ho).1
                    have hi' : i = 0 ∨ i = 1 ∨ i = 2 ∨ i = 3 ∨ i = 4 ∨ i = 5 ∨ i = 6 ∨ i = 7 ∨ i = 8 ∨ i = 9 ∨ i = 10 ∨ i = 11 ∨ i = 12 ∨ i = 13 ∨ i = 14 ∨ i = 15 ∨ i = 16 ∨ i = 17 ∨ i = 18 ∨ i = 19 ∨ i = 20 ∨ i = 21 ∨ i = 22 ∨ i = 23 ∨ i = 24 ∨ i = 25 ∨ i = 26 ∨ i = 27 ∨ i = 28 ∨ i = 29 ∨ i = 30 ∨ i = 31 ∨ i = 32 ∨ i = 33 ∨ i = 34 ∨ i = 35 ∨ i = 36 := by omega
                    clear hi
                    rcases hi' with rfl | rfl | rfl | rfl | rfl | rfl | rfl | rfl | rfl | rfl | rfl | rfl | rfl | rfl | rfl | rfl | rfl | rfl | rfl | rfl | rfl | rfl | rfl | rfl | rfl | rfl | rfl | rfl | rfl | rfl | rfl | rfl | rfl | rfl | rfl | rfl | rfl
                    all_goals (simp only [List.getElem?_toArray, List.getElem?_cons_zero, List.getElem?_cons_succ, Option.some.injEq] at ho; subst ho; intro listed f a w2 hJ hsz hls hun hdep hout hlat)
                    · rw [if_pos (by rfl)]
                      intro K hK
                      have q13 := hout 13 (outB_spec (by kernel_rfl))
                      refine wp_mv _ rfl (hK _ _ ?_)
                      rw [show a.eval (.tmp 13) = .int .i64 i from q13]
                      exact hJ.plain (by decide) (by decide) (Ex.refl _) (fun x hx => by rw [hT] at hx; first | exact Option.some.inj hx | simpa using hx)
                    · rw [if_pos (by rfl)]
                      intro K hK
                      have q10 := hout 10 (outB_spec (by kernel_rfl))
                      refine wp_mv _ rfl (hK _ _ ?_)
                      rw [show a.eval (.tmp 10) = .int .i64 i from q10]
                      exact hJ.plain (by decide) (by decide) (Ex.refl _) (fun x hx => by rw [hT] at hx; first | exact Option.some.inj hx | simpa using hx)
                    · rw [if_pos (by rfl)]
                      intro K hK
                      have q95 := (hdep ⟨0, .data⟩ (by simp) rfl).2 _ rfl _ rfl
                      rw [show f 0 = _ from hJ.vals 0 (hdep ⟨0, .data⟩ (by simp) rfl).1 (.int .i64 i) (by rw [hT]; rfl)] at q95
                      have q96 := (hdep ⟨1, .data⟩ (by simp) rfl).2 _ rfl _ rfl
                      rw [show f 1 = _ from hJ.vals 1 (hdep ⟨1, .data⟩ (by simp) rfl).1 (.int .i64 i) (by rw [hT]; rfl)] at q96
                      rw [Array.getD_eq_getD_getElem?] at q95
                      rw [Array.getD_eq_getD_getElem?] at q96
                      clear hsz hdep hout hlat
                      go_simp
                      exact hK _ _ (hJ.plain (by decide) (by decide) (Ex.refl _) (fun x hx => by rw [hT] at hx; first | exact Option.some.inj hx | simpa using hx))
                    · rw [if_pos (by rfl)]
                      intro K hK
                      have q97 := (hdep ⟨2, .data⟩ (by simp) rfl).2 _ rfl _ rfl
                      rw [show f 2 = _ from hJ.vals 2 (hdep ⟨2, .data⟩ (by simp) rfl).1 (.bool false) (by rw [hT]; rfl)] at q97
                      refine wp_mv _ rfl (hK _ _ ?_)
                      rw [show a.eval (.tmp 97) = .bool false from q97]
                      exact hJ.plain (by decide) (by decide) (Ex.refl _) (fun x hx => by rw [hT] at hx; first | exact Option.some.inj hx | simpa using hx)
                    · have kg := (hdep ⟨3, .guard⟩ (by simp) rfl).2 _ rfl _ rfl
                      rw [show f 3 = _ from hJ.vals 3 (hdep ⟨3, .guard⟩ (by simp) rfl).1 (.bool false) (by rw [hT]; rfl)] at kg
                      rw [if_neg (not_wanted rfl rfl rfl kg (by decide))]
                      exact hJ.plain (by decide) (by decide) (Ex.refl _) (fun x hx => by rw [hT] at hx; change none = some x at hx; cases hx)
                    · have kg := (hdep ⟨3, .guard⟩ (by simp) rfl).2 _ rfl _ rfl
                      rw [show f 3 = _ from hJ.vals 3 (hdep ⟨3, .guard⟩ (by simp) rfl).1 (.bool false) (by rw [hT]; rfl)] at kg
                      rw [if_neg (not_wanted rfl rfl rfl kg (by decide))]
                      exact hJ.plain (by decide) (by decide) (Ex.refl _) (fun x hx => by rw [hT] at hx; change none = some x at hx; cases hx)
                    · have kg := (hdep ⟨3, .guard⟩ (by simp) rfl).2 _ rfl _ rfl
                      rw [show f 3 = _ from hJ.vals 3 (hdep ⟨3, .guard⟩ (by simp) rfl).1 (.bool false) (by rw [hT]; rfl)] at kg
                      rw [if_neg (not_wanted rfl rfl rfl kg (by decide))]
                      exact hJ.plain (by decide) (by decide) (Ex.refl _) (fun x hx => by rw [hT] at hx; change none = some x at hx; cases hx)
                    · have kg := (hdep ⟨3, .guard⟩ (by simp) rfl).2 _ rfl _ rfl
                      rw [show f 3 = _ from hJ.vals 3 (hdep ⟨3, .guard⟩ (by simp) rfl).1 (.bool false) (by rw [hT]; rfl)] at kg
                      rw [if_neg (not_wanted rfl rfl rfl kg (by decide))]
                      exact hJ.plain (by decide) (by decide) (Ex.refl _) (fun x hx => by rw [hT] at hx; change none = some x at hx; cases hx)
                    · have kg := (hdep ⟨3, .guard⟩ (by simp) rfl).2 _ rfl _ rfl
                      rw [show f 3 = _ from hJ.vals 3 (hdep ⟨3, .guard⟩ (by simp) rfl).1 (.bool false) (by rw [hT]; rfl)] at kg
                      rw [if_neg (not_wanted rfl rfl rfl kg (by decide))]
                      exact hJ.plain (by decide) (by decide) (Ex.refl _) (fun x hx => by rw [hT] at hx; change none = some x at hx; cases hx)
                    · rw [if_pos (by rfl)]
                      intro K hK
                      have q98 := (hdep ⟨3, .data⟩ (by simp) rfl).2 _ rfl _ rfl
                      rw [show f 3 = _ from hJ.vals 3 (hdep ⟨3, .data⟩ (by simp) rfl).1 (.bool false) (by rw [hT]; rfl)] at q98
                      have q103 := (hdep ⟨8, .data⟩ (by simp) rfl).2 _ rfl _ rfl
                      rw [Array.getD_eq_getD_getElem?] at q98
                      rw [Array.getD_eq_getD_getElem?] at q103
                      clear hsz hdep hout hlat
                      go_simp
                      exact hK _ _ (hJ.plain (by decide) (by decide) (Ex.refl _) (fun x hx => by rw [hT] at hx; first | exact Option.some.inj hx | simpa using hx))
                    · rw [if_pos (by rfl)]
                      intro K hK
                      have q104 := (hdep ⟨9, .data⟩ (by simp) rfl).2 _ rfl _ rfl
                      rw [show f 9 = _ from hJ.vals 9 (hdep ⟨9, .data⟩ (by simp) rfl).1 (.bool false) (by rw [hT]; rfl)] at q104
                      refine wp_mv _ rfl (hK _ _ ?_)
                      rw [show a.eval (.tmp 104) = .bool false from q104]
                      exact hJ.plain (by decide) (by decide) (Ex.refl _) (fun x hx => by rw [hT] at hx; first | exact Option.some.inj hx | simpa using hx)
                    · have kg := (hdep ⟨10, .guard⟩ (by simp) rfl).2 _ rfl _ rfl
                      rw [show f 10 = _ from hJ.vals 10 (hdep ⟨10, .guard⟩ (by simp) rfl).1 (.bool false) (by rw [hT]; rfl)] at kg
                      rw [if_pos (wanted_of rfl rfl rfl kg)]
                      intro K hK
                      have q13 := hout 13 (outB_spec (by kernel_rfl))
                      refine wp_mv _ rfl (hK _ _ ?_)
                      rw [show a.eval (.tmp 13) = .int .i64 i from q13]
                      exact hJ.plain (by decide) (by decide) (Ex.refl _) (fun x hx => by rw [hT] at hx; first | exact Option.some.inj hx | simpa using hx)
                    · have kg := (hdep ⟨10, .guard⟩ (by simp) rfl).2 _ rfl _ rfl
                      rw [show f 10 = _ from hJ.vals 10 (hdep ⟨10, .guard⟩ (by simp) rfl).1 (.bool false) (by rw [hT]; rfl)] at kg
                      rw [if_pos (wanted_of rfl rfl rfl kg)]
                      intro K hK
                      have q10 := hout 10 (outB_spec (by kernel_rfl))
                      refine wp_mv _ rfl (hK _ _ ?_)
                      rw [show a.eval (.tmp 10) = .int .i64 i from q10]
                      exact hJ.plain (by decide) (by decide) (Ex.refl _) (fun x hx => by rw [hT] at hx; first | exact Option.some.inj hx | simpa using hx)
                    · have kg := (hdep ⟨10, .guard⟩ (by simp) rfl).2 _ rfl _ rfl
                      rw [show f 10 = _ from hJ.vals 10 (hdep ⟨10, .guard⟩ (by simp) rfl).1 (.bool false) (by rw [hT]; rfl)] at kg
                      rw [if_pos (wanted_of rfl rfl rfl kg)]
                      intro K hK
                      have q106 := (hdep ⟨11, .data⟩ (by simp) rfl).2 _ rfl _ rfl
                      rw [show f 11 = _ from hJ.vals 11 (hdep ⟨11, .data⟩ (by simp) rfl).1 (.int .i64 i) (by rw [hT]; rfl)] at q106
                      have q107 := (hdep ⟨12, .data⟩ (by simp) rfl).2 _ rfl _ rfl
                      rw [show f 12 = _ from hJ.vals 12 (hdep ⟨12, .data⟩ (by simp) rfl).1 (.int .i64 i) (by rw [hT]; rfl)] at q107
                      rw [Array.getD_eq_getD_getElem?] at q106
                      rw [Array.getD_eq_getD_getElem?] at q107
                      clear hsz hdep hout hlat
                      go_simp
                      exact hK _ _ (hJ.plain (by decide) (by decide) (Ex.refl _) (fun x hx => by rw [hT] at hx; first | exact Option.some.inj hx | simpa using hx))
                    · have kg := (hdep ⟨10, .guard⟩ (by simp) rfl).2 _ rfl _ rfl
                      rw [show f 10 = _ from hJ.vals 10 (hdep ⟨10, .guard⟩ (by simp) rfl).1 (.bool false) (by rw [hT]; rfl)] at kg
                      rw [if_pos (wanted_of rfl rfl rfl kg)]
                      intro K hK
                      have q108 := (hdep ⟨13, .data⟩ (by simp) rfl).2 _ rfl _ rfl
                      rw [show f 13 = _ from hJ.vals 13 (hdep ⟨13, .data⟩ (by simp) rfl).1 (.bool true) (by rw [hT]; rfl)] at q108
                      refine wp_mv _ rfl (hK _ _ ?_)
                      rw [show a.eval (.tmp 108) = .bool true from q108]
                      exact hJ.plain (by decide) (by decide) (Ex.refl _) (fun x hx => by rw [hT] at hx; first | exact Option.some.inj hx | simpa using hx)
                    · have kg := (hdep ⟨14, .guard⟩ (by simp) rfl).2 _ rfl _ rfl
                      rw [show f 14 = _ from hJ.vals 14 (hdep ⟨14, .guard⟩ (by simp) rfl).1 (.bool true) (by rw [hT]; rfl)] at kg
                      rw [if_pos (wanted_of rfl rfl rfl kg)]
                      intro K hK
                      have q12 := hout 12 (outB_spec (by kernel_rfl))
                      refine wp_mv _ rfl (hK _ _ ?_)
                      rw [show a.eval (.tmp 12) = .bool true from q12]
                      exact hJ.plain (by decide) (by decide) (Ex.refl _) (fun x hx => by rw [hT] at hx; first | exact Option.some.inj hx | simpa using hx)
                    · have kg := (hdep ⟨10, .guard⟩ (by simp) rfl).2 _ rfl _ rfl
                      rw [show f 10 = _ from hJ.vals 10 (hdep ⟨10, .guard⟩ (by simp) rfl).1 (.bool false) (by rw [hT]; rfl)] at kg
                      rw [if_pos (wanted_of rfl rfl rfl kg)]
                      intro K hK
                      have q109 := (hdep ⟨14, .data⟩ (by simp) rfl).2 _ rfl _ rfl
                      rw [show f 14 = _ from hJ.vals 14 (hdep ⟨14, .data⟩ (by simp) rfl).1 (.bool true) (by rw [hT]; rfl)] at q109
                      have q110 := (hdep ⟨15, .data⟩ (by simp) rfl).2 _ rfl _ rfl
                      rw [show f 15 = _ from hJ.vals 15 (hdep ⟨15, .data⟩ (by simp) rfl).1 (.bool true) (by rw [hT]; rfl)] at q110
                      rw [Array.getD_eq_getD_getElem?] at q109
                      rw [Array.getD_eq_getD_getElem?] at q110
                      clear hsz hdep hout hlat
                      go_simp
                      exact hK _ _ (hJ.plain (by decide) (by decide) (Ex.refl _) (fun x hx => by rw [hT] at hx; first | exact Option.some.inj hx | simpa using hx))
                    · have kg := (hdep ⟨10, .guard⟩ (by simp) rfl).2 _ rfl _ rfl
                      rw [show f 10 = _ from hJ.vals 10 (hdep ⟨10, .guard⟩ (by simp) rfl).1 (.bool false) (by rw [hT]; rfl)] at kg
                      rw [if_pos (wanted_of rfl rfl rfl kg)]
                      intro K hK
                      have q111 := (hdep ⟨16, .data⟩ (by simp) rfl).2 _ rfl _ rfl
                      rw [show f 16 = _ from hJ.vals 16 (hdep ⟨16, .data⟩ (by simp) rfl).1 (.bool true) (by rw [hT]; rfl)] at q111
                      refine wp_mv _ rfl (hK _ _ ?_)
                      rw [show a.eval (.tmp 111) = .bool true from q111]
                      exact hJ.plain (by decide) (by decide) (Ex.refl _) (fun x hx => by rw [hT] at hx; first | exact Option.some.inj hx | simpa using hx)
                    · have kg := (hdep ⟨17, .guard⟩ (by simp) rfl).2 _ rfl _ rfl
                      rw [show f 17 = _ from hJ.vals 17 (hdep ⟨17, .guard⟩ (by simp) rfl).1 (.bool true) (by rw [hT]; rfl)] at kg
                      rw [if_pos (wanted_of rfl rfl rfl kg)]
                      intro K hK
                      have q14 := hout 14 (outB_spec (by kernel_rfl))
                      refine wp_mv _ rfl (hK _ _ ?_)
                      rw [show a.eval (.tmp 14) = .slice (some ⟨xg, xo, none⟩) xn xc from q14]
                      exact hJ.plain (by decide) (by decide) (Ex.refl _) (fun x hx => by rw [hT] at hx; first | exact Option.some.inj hx | simpa using hx)
                    · have kg := (hdep ⟨17, .guard⟩ (by simp) rfl).2 _ rfl _ rfl
                      rw [show f 17 = _ from hJ.vals 17 (hdep ⟨17, .guard⟩ (by simp) rfl).1 (.bool true) (by rw [hT]; rfl)] at kg
                      rw [if_pos (wanted_of rfl rfl rfl kg)]
                      intro K hK
                      have q113 := (hdep ⟨18, .data⟩ (by simp) rfl).2 _ rfl _ rfl
                      rw [show f 18 = _ from hJ.vals 18 (hdep ⟨18, .data⟩ (by simp) rfl).1 (.slice (some ⟨xg, xo, none⟩) xn xc) (by rw [hT]; rfl)] at q113
                      rw [Array.getD_eq_getD_getElem?] at q113
                      clear hsz hdep hout hlat
                      go_simp
                      exact hK _ _ (hJ.plain (by decide) (by decide) (Ex.refl _) (fun x hx => by rw [hT] at hx; first | exact Option.some.inj hx | simpa using hx))
                    · have kg := (hdep ⟨17, .guard⟩ (by simp) rfl).2 _ rfl _ rfl
                      rw [show f 17 = _ from hJ.vals 17 (hdep ⟨17, .guard⟩ (by simp) rfl).1 (.bool true) (by rw [hT]; rfl)] at kg
                      rw [if_pos (wanted_of rfl rfl rfl kg)]
                      intro K hK
                      have q16 := hout 16 (outB_spec (by kernel_rfl))
                      refine wp_mv _ rfl (hK _ _ ?_)
                      rw [show a.eval (.tmp 16) = .slice (some ⟨yg, yo, none⟩) xn yc from q16]
                      exact hJ.plain (by decide) (by decide) (Ex.refl _) (fun x hx => by rw [hT] at hx; first | exact Option.some.inj hx | simpa using hx)
                    · have kg := (hdep ⟨17, .guard⟩ (by simp) rfl).2 _ rfl _ rfl
                      rw [show f 17 = _ from hJ.vals 17 (hdep ⟨17, .guard⟩ (by simp) rfl).1 (.bool true) (by rw [hT]; rfl)] at kg
                      rw [if_pos (wanted_of rfl rfl rfl kg)]
                      intro K hK
                      have q115 := (hdep ⟨20, .data⟩ (by simp) rfl).2 _ rfl _ rfl
                      rw [show f 20 = _ from hJ.vals 20 (hdep ⟨20, .data⟩ (by simp) rfl).1 (.slice (some ⟨yg, yo, none⟩) xn yc) (by rw [hT]; rfl)] at q115
                      rw [Array.getD_eq_getD_getElem?] at q115
                      clear hsz hdep hout hlat
                      go_simp
                      exact hK _ _ (hJ.plain (by decide) (by decide) (Ex.refl _) (fun x hx => by rw [hT] at hx; first | exact Option.some.inj hx | simpa using hx))
                    · have kg := (hdep ⟨17, .guard⟩ (by simp) rfl).2 _ rfl _ rfl
                      rw [show f 17 = _ from hJ.vals 17 (hdep ⟨17, .guard⟩ (by simp) rfl).1 (.bool true) (by rw [hT]; rfl)] at kg
                      rw [if_pos (wanted_of rfl rfl rfl kg)]
                      intro K hK
                      have q114 := (hdep ⟨19, .data⟩ (by simp) rfl).2 _ rfl _ rfl
                      rw [show f 19 = _ from hJ.vals 19 (hdep ⟨19, .data⟩ (by simp) rfl).1 (.int .i64 xn) (by rw [hT]; rfl)] at q114
                      have q116 := (hdep ⟨21, .data⟩ (by simp) rfl).2 _ rfl _ rfl
                      rw [show f 21 = _ from hJ.vals 21 (hdep ⟨21, .data⟩ (by simp) rfl).1 (.int .i64 xn) (by rw [hT]; rfl)] at q116
                      rw [Array.getD_eq_getD_getElem?] at q114
                      rw [Array.getD_eq_getD_getElem?] at q116
                      clear hsz hdep hout hlat
                      go_simp
                      exact hK _ _ (hJ.plain (by decide) (by decide) (Ex.refl _) (fun x hx => by rw [hT] at hx; first | exact Option.some.inj hx | simpa using hx))
                    · have kg := (hdep ⟨17, .guard⟩ (by simp) rfl).2 _ rfl _ rfl
                      rw [show f 17 = _ from hJ.vals 17 (hdep ⟨17, .guard⟩ (by simp) rfl).1 (.bool true) (by rw [hT]; rfl)] at kg
                      rw [if_pos (wanted_of rfl rfl rfl kg)]
                      intro K hK
                      have q117 := (hdep ⟨22, .data⟩ (by simp) rfl).2 _ rfl _ rfl
                      rw [show f 22 = _ from hJ.vals 22 (hdep ⟨22, .data⟩ (by simp) rfl).1 (.bool false) (by rw [hT]; rfl)] at q117
                      refine wp_mv _ rfl (hK _ _ ?_)
                      rw [show a.eval (.tmp 117) = .bool false from q117]
                      exact hJ.plain (by decide) (by decide) (Ex.refl _) (fun x hx => by rw [hT] at hx; first | exact Option.some.inj hx | simpa using hx)
                    · have kg := (hdep ⟨23, .guard⟩ (by simp) rfl).2 _ rfl _ rfl
                      rw [show f 23 = _ from hJ.vals 23 (hdep ⟨23, .guard⟩ (by simp) rfl).1 (.bool false) (by rw [hT]; rfl)] at kg
                      rw [if_pos (wanted_of rfl rfl rfl kg)]
                      intro K hK
                      have q14 := hout 14 (outB_spec (by kernel_rfl))
                      refine wp_mv _ rfl (hK _ _ ?_)
                      rw [show a.eval (.tmp 14) = .slice (some ⟨xg, xo, none⟩) xn xc from q14]
                      exact hJ.plain (by decide) (by decide) (Ex.refl _) (fun x hx => by rw [hT] at hx; first | exact Option.some.inj hx | simpa using hx)
                    · have kg := (hdep ⟨23, .guard⟩ (by simp) rfl).2 _ rfl _ rfl
                      rw [show f 23 = _ from hJ.vals 23 (hdep ⟨23, .guard⟩ (by simp) rfl).1 (.bool false) (by rw [hT]; rfl)] at kg
                      rw [if_pos (wanted_of rfl rfl rfl kg)]
                      intro K hK
                      have q11 := hout 11 (outB_spec (by kernel_rfl))
                      refine wp_mv _ rfl (hK _ _ ?_)
                      rw [show a.eval (.tmp 11) = .int .i64 t0 from q11]
                      exact hJ.plain (by decide) (by decide) (Ex.refl _) (fun x hx => by rw [hT] at hx; first | exact Option.some.inj hx | simpa using hx)
                    · have kg := (hdep ⟨23, .guard⟩ (by simp) rfl).2 _ rfl _ rfl
                      rw [show f 23 = _ from hJ.vals 23 (hdep ⟨23, .guard⟩ (by simp) rfl).1 (.bool false) (by rw [hT]; rfl)] at kg
                      rw [if_pos (wanted_of rfl rfl rfl kg)]
                      intro K hK
                      have q119 := (hdep ⟨24, .data⟩ (by simp) rfl).2 _ rfl _ rfl
                      rw [show f 24 = _ from hJ.vals 24 (hdep ⟨24, .data⟩ (by simp) rfl).1 (.slice (some ⟨xg, xo, none⟩) xn xc) (by rw [hT]; rfl)] at q119
                      have q120 := (hdep ⟨25, .data⟩ (by simp) rfl).2 _ rfl _ rfl
                      rw [show f 25 = _ from hJ.vals 25 (hdep ⟨25, .data⟩ (by simp) rfl).1 (.int .i64 t0) (by rw [hT]; rfl)] at q120
                      rw [Array.getD_eq_getD_getElem?] at q119
                      rw [Array.getD_eq_getD_getElem?] at q120
                      have z0 := T0.out
                      have z1 := T1.out
                      clear hsz hdep hout hlat
                      go_simp
                      exact hK _ _ (hJ.plain (by decide) (by decide) (Ex.refl _) (fun x hx => by rw [hT] at hx; first | exact Option.some.inj hx | simpa using hx))
                    · have kg := (hdep ⟨23, .guard⟩ (by simp) rfl).2 _ rfl _ rfl
                      rw [show f 23 = _ from hJ.vals 23 (hdep ⟨23, .guard⟩ (by simp) rfl).1 (.bool false) (by rw [hT]; rfl)] at kg
                      rw [if_pos (wanted_of rfl rfl rfl kg)]
                      intro K hK
                      have q121 := (hdep ⟨26, .data⟩ (by simp) rfl).2 _ rfl _ rfl
                      rw [show f 26 = _ from hJ.vals 26 (hdep ⟨26, .data⟩ (by simp) rfl).1 (.pointer (some ⟨xg, xo + t0, none⟩)) (by rw [hT]; rfl)] at q121
                      have f1 : w2.cell? ⟨xg, xo + t0, none⟩ = some (.int .u8 b1) := (hJ.ext.cell (p := ⟨xg, xo + t0, none⟩) Lxg.out).trans CB1.out
                      rw [Array.getD_eq_getD_getElem?] at q121
                      clear hsz hdep hout hlat
                      go_simp
                      exact hK _ _ (hJ.plain (by decide) (by decide) (Ex.refl _) (fun x hx => by rw [hT] at hx; first | exact Option.some.inj hx | simpa using hx))
                    · have kg := (hdep ⟨23, .guard⟩ (by simp) rfl).2 _ rfl _ rfl
                      rw [show f 23 = _ from hJ.vals 23 (hdep ⟨23, .guard⟩ (by simp) rfl).1 (.bool false) (by rw [hT]; rfl)] at kg
                      rw [if_pos (wanted_of rfl rfl rfl kg)]
                      intro K hK
                      have q16 := hout 16 (outB_spec (by kernel_rfl))
                      refine wp_mv _ rfl (hK _ _ ?_)
                      rw [show a.eval (.tmp 16) = .slice (some ⟨yg, yo, none⟩) xn yc from q16]
                      exact hJ.plain (by decide) (by decide) (Ex.refl _) (fun x hx => by rw [hT] at hx; first | exact Option.some.inj hx | simpa using hx)
                    · have kg := (hdep ⟨23, .guard⟩ (by simp) rfl).2 _ rfl _ rfl
                      rw [show f 23 = _ from hJ.vals 23 (hdep ⟨23, .guard⟩ (by simp) rfl).1 (.bool false) (by rw [hT]; rfl)] at kg
                      rw [if_pos (wanted_of rfl rfl rfl kg)]
                      intro K hK
                      have q11 := hout 11 (outB_spec (by kernel_rfl))
                      refine wp_mv _ rfl (hK _ _ ?_)
                      rw [show a.eval (.tmp 11) = .int .i64 t0 from q11]
                      exact hJ.plain (by decide) (by decide) (Ex.refl _) (fun x hx => by rw [hT] at hx; first | exact Option.some.inj hx | simpa using hx)
                    · have kg := (hdep ⟨23, .guard⟩ (by simp) rfl).2 _ rfl _ rfl
                      rw [show f 23 = _ from hJ.vals 23 (hdep ⟨23, .guard⟩ (by simp) rfl).1 (.bool false) (by rw [hT]; rfl)] at kg
                      rw [if_pos (wanted_of rfl rfl rfl kg)]
                      intro K hK
                      have q123 := (hdep ⟨28, .data⟩ (by simp) rfl).2 _ rfl _ rfl
                      rw [show f 28 = _ from hJ.vals 28 (hdep ⟨28, .data⟩ (by simp) rfl).1 (.slice (some ⟨yg, yo, none⟩) xn yc) (by rw [hT]; rfl)] at q123
                      have q124 := (hdep ⟨29, .data⟩ (by simp) rfl).2 _ rfl _ rfl
                      rw [show f 29 = _ from hJ.vals 29 (hdep ⟨29, .data⟩ (by simp) rfl).1 (.int .i64 t0) (by rw [hT]; rfl)] at q124
                      rw [Array.getD_eq_getD_getElem?] at q123
                      rw [Array.getD_eq_getD_getElem?] at q124
                      have z0 := T0.out
                      have z1 := T1.out
                      clear hsz hdep hout hlat
                      go_simp
                      exact hK _ _ (hJ.plain (by decide) (by decide) (Ex.refl _) (fun x hx => by rw [hT] at hx; first | exact Option.some.inj hx | simpa using hx))
                    · have kg := (hdep ⟨23, .guard⟩ (by simp) rfl).2 _ rfl _ rfl
                      rw [show f 23 = _ from hJ.vals 23 (hdep ⟨23, .guard⟩ (by simp) rfl).1 (.bool false) (by rw [hT]; rfl)] at kg
                      rw [if_pos (wanted_of rfl rfl rfl kg)]
                      intro K hK
                      have q125 := (hdep ⟨30, .data⟩ (by simp) rfl).2 _ rfl _ rfl
                      rw [show f 30 = _ from hJ.vals 30 (hdep ⟨30, .data⟩ (by simp) rfl).1 (.pointer (some ⟨yg, yo + t0, none⟩)) (by rw [hT]; rfl)] at q125
                      have f1 : w2.cell? ⟨yg, yo + t0, none⟩ = some (.int .u8 b2) := (hJ.ext.cell (p := ⟨yg, yo + t0, none⟩) Lyg.out).trans CB2.out
                      rw [Array.getD_eq_getD_getElem?] at q125
                      clear hsz hdep hout hlat
                      go_simp
                      exact hK _ _ (hJ.plain (by decide) (by decide) (Ex.refl _) (fun x hx => by rw [hT] at hx; first | exact Option.some.inj hx | simpa using hx))
                    · have kg := (hdep ⟨23, .guard⟩ (by simp) rfl).2 _ rfl _ rfl
                      rw [show f 23 = _ from hJ.vals 23 (hdep ⟨23, .guard⟩ (by simp) rfl).1 (.bool false) (by rw [hT]; rfl)] at kg
                      rw [if_pos (wanted_of rfl rfl rfl kg)]
                      intro K hK
                      have q122 := (hdep ⟨27, .data⟩ (by simp) rfl).2 _ rfl _ rfl
                      rw [show f 27 = _ from hJ.vals 27 (hdep ⟨27, .data⟩ (by simp) rfl).1 (.int .u8 b1) (by rw [hT]; rfl)] at q122
                      have q126 := (hdep ⟨31, .data⟩ (by simp) rfl).2 _ rfl _ rfl
                      rw [show f 31 = _ from hJ.vals 31 (hdep ⟨31, .data⟩ (by simp) rfl).1 (.int .u8 b2) (by rw [hT]; rfl)] at q126
                      rw [Array.getD_eq_getD_getElem?] at q122
                      rw [Array.getD_eq_getD_getElem?] at q126
                      have z0 := XOR.out
                      clear hsz hdep hout hlat
                      go_simp
                      exact hK _ _ (hJ.plain (by decide) (by decide) (Ex.refl _) (fun x hx => by rw [hT] at hx; first | exact Option.some.inj hx | simpa using hx))
                    · have kg := (hdep ⟨23, .guard⟩ (by simp) rfl).2 _ rfl _ rfl
                      rw [show f 23 = _ from hJ.vals 23 (hdep ⟨23, .guard⟩ (by simp) rfl).1 (.bool false) (by rw [hT]; rfl)] at kg
                      rw [if_pos (wanted_of rfl rfl rfl kg)]
                      intro K hK
                      have q127 := (hdep ⟨32, .data⟩ (by simp) rfl).2 _ rfl _ rfl
                      rw [show f 32 = _ from hJ.vals 32 (hdep ⟨32, .data⟩ (by simp) rfl).1 (.int .u8 1) (by rw [hT]; rfl)] at q127
                      rw [Array.getD_eq_getD_getElem?] at q127
                      clear hsz hdep hout hlat
                      go_simp
                      exact hK _ _ (hJ.plain (by decide) (by decide) (Ex.refl _) (fun x hx => by rw [hT] at hx; first | exact Option.some.inj hx | simpa using hx))
                    · have kg := (hdep ⟨17, .guard⟩ (by simp) rfl).2 _ rfl _ rfl
                      rw [show f 17 = _ from hJ.vals 17 (hdep ⟨17, .guard⟩ (by simp) rfl).1 (.bool true) (by rw [hT]; rfl)] at kg
                      rw [if_pos (wanted_of rfl rfl rfl kg)]
                      intro K hK
                      have q118 := (hdep ⟨23, .data⟩ (by simp) rfl).2 _ rfl _ rfl
                      rw [show f 23 = _ from hJ.vals 23 (hdep ⟨23, .data⟩ (by simp) rfl).1 (.bool false) (by rw [hT]; rfl)] at q118
                      have q128 := (hdep ⟨33, .data⟩ (by simp) rfl).2 _ rfl _ rfl
                      rw [show f 33 = _ from hJ.vals 33 (hdep ⟨33, .data⟩ (by simp) rfl).1 (.bool false) (by rw [hT]; rfl)] at q128
                      rw [Array.getD_eq_getD_getElem?] at q118
                      rw [Array.getD_eq_getD_getElem?] at q128
                      clear hsz hdep hout hlat
                      go_simp
                      exact hK _ _ (hJ.plain (by decide) (by decide) (Ex.refl _) (fun x hx => by rw [hT] at hx; first | exact Option.some.inj hx | simpa using hx))
                    · have kg := (hdep ⟨10, .guard⟩ (by simp) rfl).2 _ rfl _ rfl
                      rw [show f 10 = _ from hJ.vals 10 (hdep ⟨10, .guard⟩ (by simp) rfl).1 (.bool false) (by rw [hT]; rfl)] at kg
                      rw [if_pos (wanted_of rfl rfl rfl kg)]
                      intro K hK
                      have q112 := (hdep ⟨17, .data⟩ (by simp) rfl).2 _ rfl _ rfl
                      rw [show f 17 = _ from hJ.vals 17 (hdep ⟨17, .data⟩ (by simp) rfl).1 (.bool true) (by rw [hT]; rfl)] at q112
                      have q129 := (hdep ⟨34, .data⟩ (by simp) rfl).2 _ rfl _ rfl
                      rw [show f 34 = _ from hJ.vals 34 (hdep ⟨34, .data⟩ (by simp) rfl).1 (.bool false) (by rw [hT]; rfl)] at q129
                      rw [Array.getD_eq_getD_getElem?] at q112
                      rw [Array.getD_eq_getD_getElem?] at q129
                      clear hsz hdep hout hlat
                      go_simp
                      exact hK _ _ (hJ.plain (by decide) (by decide) (Ex.refl _) (fun x hx => by rw [hT] at hx; first | exact Option.some.inj hx | simpa using hx))
                    · rw [if_pos (by rfl)]
                      intro K hK
                      have q105 := (hdep ⟨10, .data⟩ (by simp) rfl).2 _ rfl _ rfl
                      rw [show f 10 = _ from hJ.vals 10 (hdep ⟨10, .data⟩ (by simp) rfl).1 (.bool false) (by rw [hT]; rfl)] at q105
                      have q130 := (hdep ⟨35, .data⟩ (by simp) rfl).2 _ rfl _ rfl
                      rw [show f 35 = _ from hJ.vals 35 (hdep ⟨35, .data⟩ (by simp) rfl).1 (.bool false) (by rw [hT]; rfl)] at q130
                      rw [Array.getD_eq_getD_getElem?] at q105
                      rw [Array.getD_eq_getD_getElem?] at q130
                      clear hsz hdep hout hlat
                      go_simp
                      exact hK _ _ (hJ.plain (by decide) (by decide) (Ex.refl _) (fun x hx => by rw [hT] at hx; first | exact Option.some.inj hx | simpa using hx))
                  · intro listed f w2 hall hJ
                    have f0 : f 0 = .int .i64 i := hJ.vals 0 (hall 0 (by simp)) _ (by rw [hT]; rfl)
                    have f1 : f 1 = .int .i64 i := hJ.vals 1 (hall 1 (by simp)) _ (by rw [hT]; rfl)
                    have f2 : f 2 = .bool false := hJ.vals 2 (hall 2 (by simp)) _ (by rw [hT]; rfl)
                    have f3 : f 3 = .bool false := hJ.vals 3 (hall 3 (by simp)) _ (by rw [hT]; rfl)
                    have f9 : f 9 = .bool false := hJ.vals 9 (hall 9 (by simp)) _ (by rw [hT]; rfl)
                    have f10 : f 10 = .bool false := hJ.vals 10 (hall 10 (by simp)) _ (by rw [hT]; rfl)
                    have f11 : f 11 = .int .i64 i := hJ.vals 11 (hall 11 (by simp)) _ (by rw [hT]; rfl)
                    have f12 : f 12 = .int .i64 i := hJ.vals 12 (hall 12 (by simp)) _ (by rw [hT]; rfl)
                    have f13 : f 13 = .bool true := hJ.vals 13 (hall 13 (by simp)) _ (by rw [hT]; rfl)
                    have f14 : f 14 = .bool true := hJ.vals 14 (hall 14 (by simp)) _ (by rw [hT]; rfl)
                    have f15 : f 15 = .bool true := hJ.vals 15 (hall 15 (by simp)) _ (by rw [hT]; rfl)
                    have f16 : f 16 = .bool true := hJ.vals 16 (hall 16 (by simp)) _ (by rw [hT]; rfl)
                    have f17 : f 17 = .bool true := hJ.vals 17 (hall 17 (by simp)) _ (by rw [hT]; rfl)
                    have f18 : f 18 = .slice (some ⟨xg, xo, none⟩) xn xc := hJ.vals 18 (hall 18 (by simp)) _ (by rw [hT]; rfl)
                    have f19 : f 19 = .int .i64 xn := hJ.vals 19 (hall 19 (by simp)) _ (by rw [hT]; rfl)
                    have f20 : f 20 = .slice (some ⟨yg, yo, none⟩) xn yc := hJ.vals 20 (hall 20 (by simp)) _ (by rw [hT]; rfl)
                    have f21 : f 21 = .int .i64 xn := hJ.vals 21 (hall 21 (by simp)) _ (by rw [hT]; rfl)
                    have f22 : f 22 = .bool false := hJ.vals 22 (hall 22 (by simp)) _ (by rw [hT]; rfl)
                    have f23 : f 23 = .bool false := hJ.vals 23 (hall 23 (by simp)) _ (by rw [hT]; rfl)
                    have f24 : f 24 = .slice (some ⟨xg, xo, none⟩) xn xc := hJ.vals 24 (hall 24 (by simp)) _ (by rw [hT]; rfl)
                    have f25 : f 25 = .int .i64 t0 := hJ.vals 25 (hall 25 (by simp)) _ (by rw [hT]; rfl)
                    have f26 : f 26 = .pointer (some ⟨xg, xo + t0, none⟩) := hJ.vals 26 (hall 26 (by simp)) _ (by rw [hT]; rfl)
                    have f27 : f 27 = .int .u8 b1 := hJ.vals 27 (hall 27 (by simp)) _ (by rw [hT]; rfl)
                    have f28 : f 28 = .slice (some ⟨yg, yo, none⟩) xn yc := hJ.vals 28 (hall 28 (by simp)) _ (by rw [hT]; rfl)
                    have f29 : f 29 = .int .i64 t0 := hJ.vals 29 (hall 29 (by simp)) _ (by rw [hT]; rfl)
                    have f30 : f 30 = .pointer (some ⟨yg, yo + t0, none⟩) := hJ.vals 30 (hall 30 (by simp)) _ (by rw [hT]; rfl)
                    have f31 : f 31 = .int .u8 b2 := hJ.vals 31 (hall 31 (by simp)) _ (by rw [hT]; rfl)
                    have f32 : f 32 = .int .u8 1 := hJ.vals 32 (hall 32 (by simp)) _ (by rw [hT]; rfl)
                    have f33 : f 33 = .bool false := hJ.vals 33 (hall 33 (by simp)) _ (by rw [hT]; rfl)
                    have f34 : f 34 = .bool false := hJ.vals 34 (hall 34 (by simp)) _ (by rw [hT]; rfl)
                    have f35 : f 35 = .bool false := hJ.vals 35 (hall 35 (by simp)) _ (by rw [hT]; rfl)
                    have f36 : f 36 = .bool false := hJ.vals 36 (hall 36 (by simp)) _ (by rw [hT]; rfl)
                    have xw := hJ.ext
                    simp only [putAll, Act.put, List.setIfInBounds_toArray, List.set_cons_zero, List.set_cons_succ, Nat.zero_add, Nat.reduceAdd]
                    rw [f0, f1, f2, f3, f9, f10, f11, f12, f13, f14, f15, f16, f17, f18, f19, f20, f21, f22, f23, f24, f25, f26, f27, f28, f29, f30, f31, f32, f33, f34, f35, f36]
                    clear f0 f1 f2 f3 f9 f10 f11 f12 f13 f14 f15 f16 f17 f18 f19 f20 f21 f22 f23 f24 f25 f26 f27 f28 f29 f30 f31 f32 f33 f34 f35 f36 hJ hall hT
                    generalize f 4 = y4
                    generalize f 5 = y5
                    generalize f 6 = y6
                    generalize f 7 = y7
                    generalize f 8 = y8
                    have K8 := Lib.hid (K7.out.ext xw)
                    have D8 := Lib.hid (DK.ext D7.out xw)
                    clear xw K7 D7
                    go_wp2_with fail
                    go_roundw
                    case rel => exact ⟨i + 1, by omega, by go_num, K8, D8⟩
                    case measure => simp [intOf]; omega
                · have hgb : getB (turnC cD k0 t0) i = getB (copyC cD) i := by unfold getB; rw [turn_other cD k0 t0 i hk]; rfl
                  have hgl : getL (turnC cD k0 t0) i = getL (copyC cD) i := by unfold getL; rw [hgb, turn_other cD k0 t0 i hk]; rfl
                  obtain ⟨st, hst⟩ : ∃ s, s = strL (getL (copyC cD) i) := ⟨_, rfl⟩
                  have CV1 := Lib.hid (fun W (x : Ex w7 W) => (show (convert 27 9 (.slice xa xn xc)).run Try.prog W = .ok (.string st) W by
                    have h := pt_conv qx W (Sm.Pt.In.ext Q7.out x)
                    rw [hst, ← hgl, ← QL.out, HXV.out.1, HXV.out.2.1, HXV.out.2.2]; exact h))
                  have CV2 := Lib.hid (fun W (x : Ex w7 W) => (show (convert 27 9 (.slice ya yn yc)).run Try.prog W = .ok (.string st) W by
                    have h := pt_conv qy W (Sm.Pt.In.ext R7.out x)
                    rw [hst, ← RL.out, HYV.out.1, HYV.out.2.1, HYV.out.2.2]; exact h))
                  have HNE := Lib.hid (show ((i : Int) != (k0 : Int)) = true by simp; omega)
                  have HNE2 := Lib.hid (show ((i : Int) == (k0 : Int)) = false by simp; omega)
                  clear hgb hgl hst hk
                  go_wp2_with fail
                  obtain ⟨T, hT⟩ : ∃ T : List (Option Value), T = [some (.int .i64 i), some (.int .i64 k0), some (.bool true), some (.bool true), some (.slice xa xn xc), some (.string st), some (.slice ya yn yc), some (.string st), some (.bool false), some (.bool false), some (.bool false), some (.int .i64 i), some (.int .i64 k0), some (.bool false), some (.bool false), none, some (.bool false), some (.bool false), none, none, none, none, none, some (undef), none, none, none, none, none, none, none, none, none, none, none, some (.bool false), some (.bool false)] := ⟨_, rfl⟩
                  refine wp_region_gen (JL w7 T 1000 1001 0 #[] #[]) (by kernel_rfl) (by kernel_rfl) (by kernel_rfl) (fitB_spec (by kernel_rfl)) (fun listed f h => JL.start _ listed f h) ?_ ?_
                  · intro i o ho
                    have hi : i < 37 := (Array.getElem?_eq_some_iff.1 ho).1
                    have hi' : i = 0 ∨ i = 1 ∨ i = 2 ∨ i = 3 ∨ i = 4 ∨ i = 5 ∨ i = 6 ∨ i = 7 ∨ i = 8 ∨ i = 9 ∨ i = 10 ∨ i = 11 ∨ i = 12 ∨ i = 13 ∨ i = 14 ∨ i = 15 ∨ i = 16 ∨ i = 17 ∨ i = 18 ∨ i = 19 ∨ i = 20 ∨ i = 21 ∨ i = 22 ∨ i = 23 ∨ i = 24 ∨ i = 25 ∨ i = 26 ∨ i = 27 ∨ i = 28 ∨ i = 29 ∨ i = 30 ∨ i = 31 ∨ i = 32 ∨ i = 33 ∨ i = 34 ∨ i = 35 ∨ i = 36 := by omega
                    clear hi
                    rcases hi' with rfl | rfl | rfl | rfl | rfl | rfl | rfl | rfl | rfl | rfl | rfl | rfl | rfl | rfl | rfl | rfl | rfl | rfl | rfl | rfl | rfl | rfl | rfl | rfl | rfl | rfl | rfl | rfl | rfl | rfl | rfl | rfl | rfl | rfl | rfl | rfl | rfl
                    all_goals (simp only [List.getElem?_toArray, List.getElem?_cons_zero, List.getElem?_cons_succ, Option.some.injEq] at ho; subst ho; intro listed f a w2 hJ hsz hls hun hdep hout hlat)
                    · rw [if_pos (by rfl)]
                      intro K hK
                      have q13 := hout 13 (outB_spec (by kernel_rfl))
                      refine wp_mv _ rfl (hK _ _ ?_)
                      rw [show a.eval (.tmp 13) = .int .i64 i from q13]
                      exact hJ.plain (by decide) (by decide) (Ex.refl _) (fun x hx => by rw [hT] at hx; first | exact Option.some.inj hx | simpa using hx)
                    · rw [if_pos (by rfl)]
                      intro K hK
                      have q10 := hout 10 (outB_spec (by kernel_rfl))
                      refine wp_mv _ rfl (hK _ _ ?_)
                      rw [show a.eval (.tmp 10) = .int .i64 k0 from q10]
                      exact hJ.plain (by decide) (by decide) (Ex.refl _) (fun x hx => by rw [hT] at hx; first | exact Option.some.inj hx | simpa using hx)
                    · rw [if_pos (by rfl)]
                      intro K hK
                      have q95 := (hdep ⟨0, .data⟩ (by simp) rfl).2 _ rfl _ rfl
                      rw [show f 0 = _ from hJ.vals 0 (hdep ⟨0, .data⟩ (by simp) rfl).1 (.int .i64 i) (by rw [hT]; rfl)] at q95
                      have q96 := (hdep ⟨1, .data⟩ (by simp) rfl).2 _ rfl _ rfl
                      rw [show f 1 = _ from hJ.vals 1 (hdep ⟨1, .data⟩ (by simp) rfl).1 (.int .i64 k0) (by rw [hT]; rfl)] at q96
                      rw [Array.getD_eq_getD_getElem?] at q95
                      rw [Array.getD_eq_getD_getElem?] at q96
                      have z9 := HNE.out
                      clear hsz hdep hout hlat
                      go_simp
                      exact hK _ _ (hJ.plain (by decide) (by decide) (Ex.refl _) (fun x hx => by rw [hT] at hx; first | exact Option.some.inj hx | simpa using hx))
                    · rw [if_pos (by rfl)]
                      intro K hK
                      have q97 := (hdep ⟨2, .data⟩ (by simp) rfl).2 _ rfl _ rfl
                      rw [show f 2 = _ from hJ.vals 2 (hdep ⟨2, .data⟩ (by simp) rfl).1 (.bool true) (by rw [hT]; rfl)] at q97
                      refine wp_mv _ rfl (hK _ _ ?_)
                      rw [show a.eval (.tmp 97) = .bool true from q97]
                      exact hJ.plain (by decide) (by decide) (Ex.refl _) (fun x hx => by rw [hT] at hx; first | exact Option.some.inj hx | simpa using hx)
                    · have kg := (hdep ⟨3, .guard⟩ (by simp) rfl).2 _ rfl _ rfl
                      rw [show f 3 = _ from hJ.vals 3 (hdep ⟨3, .guard⟩ (by simp) rfl).1 (.bool true) (by rw [hT]; rfl)] at kg
                      rw [if_pos (wanted_of rfl rfl rfl kg)]
                      intro K hK
                      have q14 := hout 14 (outB_spec (by kernel_rfl))
                      refine wp_mv _ rfl (hK _ _ ?_)
                      rw [show a.eval (.tmp 14) = .slice xa xn xc from q14]
                      exact hJ.plain (by decide) (by decide) (Ex.refl _) (fun x hx => by rw [hT] at hx; first | exact Option.some.inj hx | simpa using hx)
                    · have kg := (hdep ⟨3, .guard⟩ (by simp) rfl).2 _ rfl _ rfl
                      rw [show f 3 = _ from hJ.vals 3 (hdep ⟨3, .guard⟩ (by simp) rfl).1 (.bool true) (by rw [hT]; rfl)] at kg
                      rw [if_pos (wanted_of rfl rfl rfl kg)]
                      intro K hK
                      have q99 := (hdep ⟨4, .data⟩ (by simp) rfl).2 _ rfl _ rfl
                      rw [show f 4 = _ from hJ.vals 4 (hdep ⟨4, .data⟩ (by simp) rfl).1 (.slice xa xn xc) (by rw [hT]; rfl)] at q99
                      rw [Array.getD_eq_getD_getElem?] at q99
                      have cc := CV1.out w2 hJ.ext
                      clear hsz hdep hout hlat
                      go_simp
                      exact hK _ _ (hJ.plain (by decide) (by decide) (Ex.refl _) (fun x hx => by rw [hT] at hx; first | exact Option.some.inj hx | simpa using hx))
                    · have kg := (hdep ⟨3, .guard⟩ (by simp) rfl).2 _ rfl _ rfl
                      rw [show f 3 = _ from hJ.vals 3 (hdep ⟨3, .guard⟩ (by simp) rfl).1 (.bool true) (by rw [hT]; rfl)] at kg
                      rw [if_pos (wanted_of rfl rfl rfl kg)]
                      intro K hK
                      have q16 := hout 16 (outB_spec (by kernel_rfl))
                      refine wp_mv _ rfl (hK _ _ ?_)
                      rw [show a.eval (.tmp 16) = .slice ya yn yc from q16]
                      exact hJ.plain (by decide) (by decide) (Ex.refl _) (fun x hx => by rw [hT] at hx; first | exact Option.some.inj hx | simpa using hx)
                    · have kg := (hdep ⟨3, .guard⟩ (by simp) rfl).2 _ rfl _ rfl
                      rw [show f 3 = _ from hJ.vals 3 (hdep ⟨3, .guard⟩ (by simp) rfl).1 (.bool true) (by rw [hT]; rfl)] at kg
                      rw [if_pos (wanted_of rfl rfl rfl kg)]
                      intro K hK
                      have q101 := (hdep ⟨6, .data⟩ (by simp) rfl).2 _ rfl _ rfl
                      rw [show f 6 = _ from hJ.vals 6 (hdep ⟨6, .data⟩ (by simp) rfl).1 (.slice ya yn yc) (by rw [hT]; rfl)] at q101
                      rw [Array.getD_eq_getD_getElem?] at q101
                      have cc := CV2.out w2 hJ.ext
                      clear hsz hdep hout hlat
                      go_simp
                      exact hK _ _ (hJ.plain (by decide) (by decide) (Ex.refl _) (fun x hx => by rw [hT] at hx; first | exact Option.some.inj hx | simpa using hx))
                    · have kg := (hdep ⟨3, .guard⟩ (by simp) rfl).2 _ rfl _ rfl
                      rw [show f 3 = _ from hJ.vals 3 (hdep ⟨3, .guard⟩ (by simp) rfl).1 (.bool true) (by rw [hT]; rfl)] at kg
                      rw [if_pos (wanted_of rfl rfl rfl kg)]
                      intro K hK
                      have q100 := (hdep ⟨5, .data⟩ (by simp) rfl).2 _ rfl _ rfl
                      rw [show f 5 = _ from hJ.vals 5 (hdep ⟨5, .data⟩ (by simp) rfl).1 (.string st) (by rw [hT]; rfl)] at q100
                      have q102 := (hdep ⟨7, .data⟩ (by simp) rfl).2 _ rfl _ rfl
                      rw [show f 7 = _ from hJ.vals 7 (hdep ⟨7, .data⟩ (by simp) rfl).1 (.string st) (by rw [hT]; rfl)] at q102
                      rw [Array.getD_eq_getD_getElem?] at q100
                      rw [Array.getD_eq_getD_getElem?] at q102
                      clear hsz hdep hout hlat
                      go_simp
                      exact hK _ _ (hJ.plain (by decide) (by decide) (Ex.refl _) (fun x hx => by rw [hT] at hx; first | exact Option.some.inj hx | simpa using hx))
                    · rw [if_pos (by rfl)]
                      intro K hK
                      have q98 := (hdep ⟨3, .data⟩ (by simp) rfl).2 _ rfl _ rfl
                      rw [show f 3 = _ from hJ.vals 3 (hdep ⟨3, .data⟩ (by simp) rfl).1 (.bool true) (by rw [hT]; rfl)] at q98
                      have q103 := (hdep ⟨8, .data⟩ (by simp) rfl).2 _ rfl _ rfl
                      rw [show f 8 = _ from hJ.vals 8 (hdep ⟨8, .data⟩ (by simp) rfl).1 (.bool false) (by rw [hT]; rfl)] at q103
                      rw [Array.getD_eq_getD_getElem?] at q98
                      rw [Array.getD_eq_getD_getElem?] at q103
                      clear hsz hdep hout hlat
                      go_simp
                      exact hK _ _ (hJ.plain (by decide) (by decide) (Ex.refl _) (fun x hx => by rw [hT] at hx; first | exact Option.some.inj hx | simpa using hx))
                    · rw [if_pos (by rfl)]
                      intro K hK
                      have q104 := (hdep ⟨9, .data⟩ (by simp) rfl).2 _ rfl _ rfl
                      rw [show f 9 = _ from hJ.vals 9 (hdep ⟨9, .data⟩ (by simp) rfl).1 (.bool false) (by rw [hT]; rfl)] at q104
                      refine wp_mv _ rfl (hK _ _ ?_)
                      rw [show a.eval (.tmp 104) = .bool false from q104]
                      exact hJ.plain (by decide) (by decide) (Ex.refl _) (fun x hx => by rw [hT] at hx; first | exact Option.some.inj hx | simpa using hx)
                    · have kg := (hdep ⟨10, .guard⟩ (by simp) rfl).2 _ rfl _ rfl
                      rw [show f 10 = _ from hJ.vals 10 (hdep ⟨10, .guard⟩ (by simp) rfl).1 (.bool false) (by rw [hT]; rfl)] at kg
                      rw [if_pos (wanted_of rfl rfl rfl kg)]
                      intro K hK
                      have q13 := hout 13 (outB_spec (by kernel_rfl))
                      refine wp_mv _ rfl (hK _ _ ?_)
                      rw [show a.eval (.tmp 13) = .int .i64 i from q13]
                      exact hJ.plain (by decide) (by decide) (Ex.refl _) (fun x hx => by rw [hT] at hx; first | exact Option.some.inj hx | simpa using hx)
                    · have kg := (hdep ⟨10, .guard⟩ (by simp) rfl).2 _ rfl _ rfl
                      rw [show f 10 = _ from hJ.vals 10 (hdep ⟨10, .guard⟩ (by simp) rfl).1 (.bool false) (by rw [hT]; rfl)] at kg
                      rw [if_pos (wanted_of rfl rfl rfl kg)]
                      intro K hK
                      have q10 := hout 10 (outB_spec (by kernel_rfl))
                      refine wp_mv _ rfl (hK _ _ ?_)
                      rw [show a.eval (.tmp 10) = .int .i64 k0 from q10]
                      exact hJ.plain (by decide) (by decide) (Ex.refl _) (fun x hx => by rw [hT] at hx; first | exact Option.some.inj hx | simpa using hx)
                    · have kg := (hdep ⟨10, .guard⟩ (by simp) rfl).2 _ rfl _ rfl
                      rw [show f 10 = _ from hJ.vals 10 (hdep ⟨10, .guard⟩ (by simp) rfl).1 (.bool false) (by rw [hT]; rfl)] at kg
                      rw [if_pos (wanted_of rfl rfl rfl kg)]
                      intro K hK
                      have q106 := (hdep ⟨11, .data⟩ (by simp) rfl).2 _ rfl _ rfl
                      rw [show f 11 = _ from hJ.vals 11 (hdep ⟨11, .data⟩ (by simp) rfl).1 (.int .i64 i) (by rw [hT]; rfl)] at q106
                      have q107 := (hdep ⟨12, .data⟩ (by simp) rfl).2 _ rfl _ rfl
                      rw [show f 12 = _ from hJ.vals 12 (hdep ⟨12, .data⟩ (by simp) rfl).1 (.int .i64 k0) (by rw [hT]; rfl)] at q107
                      rw [Array.getD_eq_getD_getElem?] at q106
                      rw [Array.getD_eq_getD_getElem?] at q107
                      have z9 := HNE2.out
                      clear hsz hdep hout hlat
                      go_simp
                      exact hK _ _ (hJ.plain (by decide) (by decide) (Ex.refl _) (fun x hx => by rw [hT] at hx; first | exact Option.some.inj hx | simpa using hx))
                    · have kg := (hdep ⟨10, .guard⟩ (by simp) rfl).2 _ rfl _ rfl
                      rw [show f 10 = _ from hJ.vals 10 (hdep ⟨10, .guard⟩ (by simp) rfl).1 (.bool false) (by rw [hT]; rfl)] at kg
                      rw [if_pos (wanted_of rfl rfl rfl kg)]
                      intro K hK
                      have q108 := (hdep ⟨13, .data⟩ (by simp) rfl).2 _ rfl _ rfl
                      rw [show f 13 = _ from hJ.vals 13 (hdep ⟨13, .data⟩ (by simp) rfl).1 (.bool false) (by rw [hT]; rfl)] at q108
                      refine wp_mv _ rfl (hK _ _ ?_)
                      rw [show a.eval (.tmp 108) = .bool false from q108]
                      exact hJ.plain (by decide) (by decide) (Ex.refl _) (fun x hx => by rw [hT] at hx; first | exact Option.some.inj hx | simpa using hx)
                    · have kg := (hdep ⟨14, .guard⟩ (by simp) rfl).2 _ rfl _ rfl
                      rw [show f 14 = _ from hJ.vals 14 (hdep ⟨14, .guard⟩ (by simp) rfl).1 (.bool false) (by rw [hT]; rfl)] at kg
                      rw [if_neg (not_wanted rfl rfl rfl kg (by decide))]
                      exact hJ.plain (by decide) (by decide) (Ex.refl _) (fun x hx => by rw [hT] at hx; change none = some x at hx; cases hx)
                    · have kg := (hdep ⟨10, .guard⟩ (by simp) rfl).2 _ rfl _ rfl
                      rw [show f 10 = _ from hJ.vals 10 (hdep ⟨10, .guard⟩ (by simp) rfl).1 (.bool false) (by rw [hT]; rfl)] at kg
                      rw [if_pos (wanted_of rfl rfl rfl kg)]
                      intro K hK
                      have q109 := (hdep ⟨14, .data⟩ (by simp) rfl).2 _ rfl _ rfl
                      rw [show f 14 = _ from hJ.vals 14 (hdep ⟨14, .data⟩ (by simp) rfl).1 (.bool false) (by rw [hT]; rfl)] at q109
                      have q110 := (hdep ⟨15, .data⟩ (by simp) rfl).2 _ rfl _ rfl
                      rw [Array.getD_eq_getD_getElem?] at q109
                      rw [Array.getD_eq_getD_getElem?] at q110
                      clear hsz hdep hout hlat
                      go_simp
                      exact hK _ _ (hJ.plain (by decide) (by decide) (Ex.refl _) (fun x hx => by rw [hT] at hx; first | exact Option.some.inj hx | simpa using hx))
                    · have kg := (hdep ⟨10, .guard⟩ (by simp) rfl).2 _ rfl _ rfl
                      rw [show f 10 = _ from hJ.vals 10 (hdep ⟨10, .guard⟩ (by simp) rfl).1 (.bool false) (by rw [hT]; rfl)] at kg
                      rw [if_pos (wanted_of rfl rfl rfl kg)]
                      intro K hK
                      have q111 := (hdep ⟨16, .data⟩ (by simp) rfl).2 _ rfl _ rfl
                      rw [show f 16 = _ from hJ.vals 16 (hdep ⟨16, .data⟩ (by simp) rfl).1 (.bool false) (by rw [hT]; rfl)] at q111
                      refine wp_mv _ rfl (hK _ _ ?_)
                      rw [show a.eval (.tmp 111) = .bool false from q111]
                      exact hJ.plain (by decide) (by decide) (Ex.refl _) (fun x hx => by rw [hT] at hx; first | exact Option.some.inj hx | simpa using hx)
                    · have kg := (hdep ⟨17, .guard⟩ (by simp) rfl).2 _ rfl _ rfl
                      rw [show f 17 = _ from hJ.vals 17 (hdep ⟨17, .guard⟩ (by simp) rfl).1 (.bool false) (by rw [hT]; rfl)] at kg
                      rw [if_neg (not_wanted rfl rfl rfl kg (by decide))]
                      exact hJ.plain (by decide) (by decide) (Ex.refl _) (fun x hx => by rw [hT] at hx; change none = some x at hx; cases hx)
                    · have kg := (hdep ⟨17, .guard⟩ (by simp) rfl).2 _ rfl _ rfl
                      rw [show f 17 = _ from hJ.vals 17 (hdep ⟨17, .guard⟩ (by simp) rfl).1 (.bool false) (by rw [hT]; rfl)] at kg
                      rw [if_neg (not_wanted rfl rfl rfl kg (by decide))]
                      exact hJ.plain (by decide) (by decide) (Ex.refl _) (fun x hx => by rw [hT] at hx; change none = some x at hx; cases hx)
                    · have kg := (hdep ⟨17, .guard⟩ (by simp) rfl).2 _ rfl _ rfl
                      rw [show f 17 = _ from hJ.vals 17 (hdep ⟨17, .guard⟩ (by simp) rfl).1 (.bool false) (by rw [hT]; rfl)] at kg
                      rw [if_neg (not_wanted rfl rfl rfl kg (by decide))]
                      exact hJ.plain (by decide) (by decide) (Ex.refl _) (fun x hx => by rw [hT] at hx; change none = some x at hx; cases hx)
                    · have kg := (hdep ⟨17, .guard⟩ (by simp) rfl).2 _ rfl _ rfl
                      rw [show f 17 = _ from hJ.vals 17 (hdep ⟨17, .guard⟩ (by simp) rfl).1 (.bool false) (by rw [hT]; rfl)] at kg
                      rw [if_neg (not_wanted rfl rfl rfl kg (by decide))]
                      exact hJ.plain (by decide) (by decide) (Ex.refl _) (fun x hx => by rw [hT] at hx; change none = some x at hx; cases hx)
                    · have kg := (hdep ⟨17, .guard⟩ (by simp) rfl).2 _ rfl _ rfl
                      rw [show f 17 = _ from hJ.vals 17 (hdep ⟨17, .guard⟩ (by simp) rfl).1 (.bool false) (by rw [hT]; rfl)] at kg
                      rw [if_neg (not_wanted rfl rfl rfl kg (by decide))]
                      exact hJ.plain (by decide) (by decide) (Ex.refl _) (fun x hx => by rw [hT] at hx; change none = some x at hx; cases hx)
                    · have kg := (hdep ⟨17, .guard⟩ (by simp) rfl).2 _ rfl _ rfl
                      rw [show f 17 = _ from hJ.vals 17 (hdep ⟨17, .guard⟩ (by simp) rfl).1 (.bool false) (by rw [hT]; rfl)] at kg
                      rw [if_neg (not_wanted rfl rfl rfl kg (by decide))]
                      exact hJ.plain (by decide) (by decide) (Ex.refl _) (fun x hx => by rw [hT] at hx; first | exact Option.some.inj hx | simpa using hx)
                    · have kg := (hdep ⟨23, .guard⟩ (by simp) rfl).2 _ rfl _ rfl
                      rw [show f 23 = _ from hJ.vals 23 (hdep ⟨23, .guard⟩ (by simp) rfl).1 (undef) (by rw [hT]; rfl)] at kg
                      rw [if_neg (not_wanted_x rfl rfl rfl kg (by simp [undef]))]
                      exact hJ.plain (by decide) (by decide) (Ex.refl _) (fun x hx => by rw [hT] at hx; change none = some x at hx; cases hx)
                    · have kg := (hdep ⟨23, .guard⟩ (by simp) rfl).2 _ rfl _ rfl
                      rw [show f 23 = _ from hJ.vals 23 (hdep ⟨23, .guard⟩ (by simp) rfl).1 (undef) (by rw [hT]; rfl)] at kg
                      rw [if_neg (not_wanted_x rfl rfl rfl kg (by simp [undef]))]
                      exact hJ.plain (by decide) (by decide) (Ex.refl _) (fun x hx => by rw [hT] at hx; change none = some x at hx; cases hx)
                    · have kg := (hdep ⟨23, .guard⟩ (by simp) rfl).2 _ rfl _ rfl
                      rw [show f 23 = _ from hJ.vals 23 (hdep ⟨23, .guard⟩ (by simp) rfl).1 (undef) (by rw [hT]; rfl)] at kg
                      rw [if_neg (not_wanted_x rfl rfl rfl kg (by simp [undef]))]
                      exact hJ.plain (by decide) (by decide) (Ex.refl _) (fun x hx => by rw [hT] at hx; change none = some x at hx; cases hx)
                    · have kg := (hdep ⟨23, .guard⟩ (by simp) rfl).2 _ rfl _ rfl
                      rw [show f 23 = _ from hJ.vals 23 (hdep ⟨23, .guard⟩ (by simp) rfl).1 (undef) (by rw [hT]; rfl)] at kg
                      rw [if_neg (not_wanted_x rfl rfl rfl kg (by simp [undef]))]
                      exact hJ.plain (by decide) (by decide) (Ex.refl _) (fun x hx => by rw [hT] at hx; change none = some x at hx; cases hx)
                    · have kg := (hdep ⟨23, .guard⟩ (by simp) rfl).2 _ rfl _ rfl
                      rw [show f 23 = _ from hJ.vals 23 (hdep ⟨23, .guard⟩ (by simp) rfl).1 (undef) (by rw [hT]; rfl)] at kg
                      rw [if_neg (not_wanted_x rfl rfl rfl kg (by simp [undef]))]
                      exact hJ.plain (by decide) (by decide) (Ex.refl _) (fun x hx => by rw [hT] at hx; change none = some x at hx; cases hx)
                    · have kg := (hdep ⟨23, .guard⟩ (by simp) rfl).2 _ rfl _ rfl
                      rw [show f 23 = _ from hJ.vals 23 (hdep ⟨23, .guard⟩ (by simp) rfl).1 (undef) (by rw [hT]; rfl)] at kg
                      rw [if_neg (not_wanted_x rfl rfl rfl kg (by simp [undef]))]
                      exact hJ.plain (by decide) (by decide) (Ex.refl _) (fun x hx => by rw [hT] at hx; change none = some x at hx; cases hx)
                    · have kg := (hdep ⟨23, .guard⟩ (by simp) rfl).2 _ rfl _ rfl
                      rw [show f 23 = _ from hJ.vals 23 (hdep ⟨23, .guard⟩ (by simp) rfl).1 (undef) (by rw [hT]; rfl)] at kg
                      rw [if_neg (not_wanted_x rfl rfl rfl kg (by simp [undef]))]
                      exact hJ.plain (by decide) (by decide) (Ex.refl _) (fun x hx => by rw [hT] at hx; change none = some x at hx; cases hx)
                    · have kg := (hdep ⟨23, .guard⟩ (by simp) rfl).2 _ rfl _ rfl
                      rw [show f 23 = _ from hJ.vals 23 (hdep ⟨23, .guard⟩ (by simp) rfl).1 (undef) (by rw [hT]; rfl)] at kg
                      rw [if_neg (not_wanted_x rfl rfl rfl kg (by simp [undef]))]
                      exact hJ.plain (by decide) (by decide) (Ex.refl _) (fun x hx => by rw [hT] at hx; change none = some x at hx; cases hx)
                    · have kg := (hdep ⟨23, .guard⟩ (by simp) rfl).2 _ rfl _ rfl
                      rw [show f 23 = _ from hJ.vals 23 (hdep ⟨23, .guard⟩ (by simp) rfl).1 (undef) (by rw [hT]; rfl)] at kg
                      rw [if_neg (not_wanted_x rfl rfl rfl kg (by simp [undef]))]
                      exact hJ.plain (by decide) (by decide) (Ex.refl _) (fun x hx => by rw [hT] at hx; change none = some x at hx; cases hx)
                    · have kg := (hdep ⟨23, .guard⟩ (by simp) rfl).2 _ rfl _ rfl
                      rw [show f 23 = _ from hJ.vals 23 (hdep ⟨23, .guard⟩ (by simp) rfl).1 (undef) (by rw [hT]; rfl)] at kg
                      rw [if_neg (not_wanted_x rfl rfl rfl kg (by simp [undef]))]
                      exact hJ.plain (by decide) (by decide) (Ex.refl _) (fun x hx => by rw [hT] at hx; change none = some x at hx; cases hx)
                    · have kg := (hdep ⟨17, .guard⟩ (by simp) rfl).2 _ rfl _ rfl
                      rw [show f 17 = _ from hJ.vals 17 (hdep ⟨17, .guard⟩ (by simp) rfl).1 (.bool false) (by rw [hT]; rfl)] at kg
                      rw [if_neg (not_wanted rfl rfl rfl kg (by decide))]
                      exact hJ.plain (by decide) (by decide) (Ex.refl _) (fun x hx => by rw [hT] at hx; change none = some x at hx; cases hx)
                    · have kg := (hdep ⟨10, .guard⟩ (by simp) rfl).2 _ rfl _ rfl
                      rw [show f 10 = _ from hJ.vals 10 (hdep ⟨10, .guard⟩ (by simp) rfl).1 (.bool false) (by rw [hT]; rfl)] at kg
                      rw [if_pos (wanted_of rfl rfl rfl kg)]
                      intro K hK
                      have q112 := (hdep ⟨17, .data⟩ (by simp) rfl).2 _ rfl _ rfl
                      rw [show f 17 = _ from hJ.vals 17 (hdep ⟨17, .data⟩ (by simp) rfl).1 (.bool false) (by rw [hT]; rfl)] at q112
                      have q129 := (hdep ⟨34, .data⟩ (by simp) rfl).2 _ rfl _ rfl
                      rw [Array.getD_eq_getD_getElem?] at q112
                      rw [Array.getD_eq_getD_getElem?] at q129
                      clear hsz hdep hout hlat
                      go_simp
                      exact hK _ _ (hJ.plain (by decide) (by decide) (Ex.refl _) (fun x hx => by rw [hT] at hx; first | exact Option.some.inj hx | simpa using hx))
                    · rw [if_pos (by rfl)]
                      intro K hK
                      have q105 := (hdep ⟨10, .data⟩ (by simp) rfl).2 _ rfl _ rfl
                      rw [show f 10 = _ from hJ.vals 10 (hdep ⟨10, .data⟩ (by simp) rfl).1 (.bool false) (by rw [hT]; rfl)] at q105
                      have q130 := (hdep ⟨35, .data⟩ (by simp) rfl).2 _ rfl _ rfl
                      rw [show f 35 = _ from hJ.vals 35 (hdep ⟨35, .data⟩ (by simp) rfl).1 (.bool false) (by rw [hT]; rfl)] at q130
                      rw [Array.getD_eq_getD_getElem?] at q105
                      rw [Array.getD_eq_getD_getElem?] at q130
                      clear hsz hdep hout hlat
                      go_simp
                      exact hK _ _ (hJ.plain (by decide) (by decide) (Ex.refl _) (fun x hx => by rw [hT] at hx; first | exact Option.some.inj hx | simpa using hx))
                  · intro listed f w2 hall hJ
                    have f0 : f 0 = .int .i64 i := hJ.vals 0 (hall 0 (by simp)) _ (by rw [hT]; rfl)
                    have f1 : f 1 = .int .i64 k0 := hJ.vals 1 (hall 1 (by simp)) _ (by rw [hT]; rfl)
                    have f2 : f 2 = .bool true := hJ.vals 2 (hall 2 (by simp)) _ (by rw [hT]; rfl)
                    have f3 : f 3 = .bool true := hJ.vals 3 (hall 3 (by simp)) _ (by rw [hT]; rfl)
                    have f4 : f 4 = .slice xa xn xc := hJ.vals 4 (hall 4 (by simp)) _ (by rw [hT]; rfl)
                    have f5 : f 5 = .string st := hJ.vals 5 (hall 5 (by simp)) _ (by rw [hT]; rfl)
                    have f6 : f 6 = .slice ya yn yc := hJ.vals 6 (hall 6 (by simp)) _ (by rw [hT]; rfl)
                    have f7 : f 7 = .string st := hJ.vals 7 (hall 7 (by simp)) _ (by rw [hT]; rfl)
                    have f8 : f 8 = .bool false := hJ.vals 8 (hall 8 (by simp)) _ (by rw [hT]; rfl)
                    have f9 : f 9 = .bool false := hJ.vals 9 (hall 9 (by simp)) _ (by rw [hT]; rfl)
                    have f10 : f 10 = .bool false := hJ.vals 10 (hall 10 (by simp)) _ (by rw [hT]; rfl)
                    have f11 : f 11 = .int .i64 i := hJ.vals 11 (hall 11 (by simp)) _ (by rw [hT]; rfl)
                    have f12 : f 12 = .int .i64 k0 := hJ.vals 12 (hall 12 (by simp)) _ (by rw [hT]; rfl)
                    have f13 : f 13 = .bool false := hJ.vals 13 (hall 13 (by simp)) _ (by rw [hT]; rfl)
                    have f14 : f 14 = .bool false := hJ.vals 14 (hall 14 (by simp)) _ (by rw [hT]; rfl)
                    have f16 : f 16 = .bool false := hJ.vals 16 (hall 16 (by simp)) _ (by rw [hT]; rfl)
                    have f17 : f 17 = .bool false := hJ.vals 17 (hall 17 (by simp)) _ (by rw [hT]; rfl)
                    have f23 : f 23 = undef := hJ.vals 23 (hall 23 (by simp)) _ (by rw [hT]; rfl)
                    have f35 : f 35 = .bool false := hJ.vals 35 (hall 35 (by simp)) _ (by rw [hT]; rfl)
                    have f36 : f 36 = .bool false := hJ.vals 36 (hall 36 (by simp)) _ (by rw [hT]; rfl)
                    have xw := hJ.ext
                    simp only [putAll, Act.put, List.setIfInBounds_toArray, List.set_cons_zero, List.set_cons_succ, Nat.zero_add, Nat.reduceAdd]
                    rw [f0, f1, f2, f3, f4, f5, f6, f7, f8, f9, f10, f11, f12, f13, f14, f16, f17, f23, f35, f36]
                    clear f0 f1 f2 f3 f4 f5 f6 f7 f8 f9 f10 f11 f12 f13 f14 f16 f17 f23 f35 f36 hJ hall hT
                    generalize f 15 = y15
                    generalize f 18 = y18
                    generalize f 19 = y19
                    generalize f 20 = y20
                    generalize f 21 = y21
                    generalize f 22 = y22
                    generalize f 24 = y24
                    generalize f 25 = y25
                    generalize f 26 = y26
                    generalize f 27 = y27
                    generalize f 28 = y28
                    generalize f 29 = y29
                    generalize f 30 = y30
                    generalize f 31 = y31
                    generalize f 32 = y32
                    generalize f 33 = y33
                    generalize f 34 = y34
                    have K8 := Lib.hid (K7.out.ext xw)
                    have D8 := Lib.hid (DK.ext D7.out xw)
                    clear xw K7 D7
                    go_wp2_with fail
                    go_roundw
                    case rel => exact ⟨i + 1, by omega, by go_num, K8, D8⟩
                    case measure => simp [intOf]; omega
              · obtain rfl : i = 10 := by omega
                have TG := Lib.hid (turn_any7 g k0 HK10.out t0 (turnC cD k0 t0) wr K.out.dk (by
                  by_cases hy : t0 < (cD.now.getD k0 (false, [])).2.length
                  · rw [TW.out.2.1 hy, getD_set, if_pos ⟨rfl, by rw [ND.out]; exact HK10.out⟩]
                    show (flipA _ _).length ≤ _
                    unfold flipA; rw [List.length_set]; have := LN.out k0; omega
                  · rw [TW.out.2.2 hy]; have := LN.out k0; omega))
                rw [TT.out.1] at TG
                go_wp2_with fail
                refine TG.out.mono ?_
                rintro e w6 ⟨rfl, hk6, m6⟩
                have D6 := Lib.hid (DK.md D9.out K.out.dk m6 GN.out)
                have K6 := Lib.hid (K.out.md m6 hk6)
                have S1 := Lib.hid (show Calls Try.prog 22 #[.pointer (some ⟨g, 0, none⟩), .pointer (some ⟨g9, 0, none⟩)] w6 fun e w' => e = .returned (.bool true) ∧ Below w6.heap.size w6 w' by
                  have h := same7_any g g9 (turnC (turnC cD k0 t0) k0 t0) (copyC cD) w6 K6.out.dk D6.out
                  rw [show decide ((turnC (turnC cD k0 t0) k0 t0).now = (copyC cD).now) = true from decide_eq_true TT.out.2] at h; exact h)
                have BW6 := Lib.hid (show Ex w w6 from K6.out.bel)
                clear TG K D9 hk6 m6 D6 K6
                go_wp2_with fail
                refine S1.out.mono ?_
                rintro e w7 ⟨rfl, x7⟩
                have BW7 := Lib.hid (Ex.trans BW6.out x7)
                clear S1 x7
                go_wp2_with fail
                refine (KN.out w7).mono ?_
                rintro e w8 ⟨rfl, x8⟩
                have BWF := Ex.trans BW7.out x8
                clear x8
                go_wp2_with fail
                go_ret
                exact ⟨rfl, BWF⟩
        · try (exfalso; have := HK10.out; omega)
          all_goals
            have z1 : ¬ ((k0 : Int) < (nl : Int)) := by omega
            obtain rfl : th = false := by
              rw [HTH.out, TW.out.1, AT.out k0, if_neg (by have := HKA2.out; omega)]; rfl
            go_wp2_with fail
            refine TN.out.mono ?_
            rintro e w5 ⟨rfl, hk5, m5⟩
            have D5 := Lib.hid (DK.md D9.out K3.out.dk m5 GN.out)
            have K5 := Lib.hid (show Kp w g (turnC cD k0 t0) w5 from K3.out.md m5 hk5)
            have S1 := Lib.hid (show Calls Try.prog 22 #[.pointer (some ⟨g, 0, none⟩), .pointer (some ⟨g9, 0, none⟩)] w5 fun e w' => e = .returned (.bool true) ∧ Below w5.heap.size w5 w' by
              have h := same7_any g g9 (turnC cD k0 t0) (copyC cD) w5 K5.out.dk D5.out
              rw [show decide ((turnC cD k0 t0).now = (copyC cD).now) = !false from TD.out] at h; exact h)
            clear TN K3 D9 hk5 m5 TD
            go_wp2_with fail
            refine S1.out.mono ?_
            rintro e w6 ⟨rfl, x6⟩
            have K6 := Lib.hid (K5.out.ext x6)
            have D6 := Lib.hid (DK.ext D5.out x6)
            clear S1 K5 D5 x6
            go_wp2_with fail
            go_loopw [13] (fun iv wr => ∃ (i : Nat), i ≤ 10 ∧ iv = .int .i64 i ∧ Hid (Kp w g (turnC cD k0 t0) wr) ∧ Hid (DK wr g9 (copyC cD))) (fun iv _ => 10 - (intOf iv).toNat)
            case atStart => exact ⟨0, by omega, rfl, K6, D6⟩
            case round =>
              clear K6 D6
              obtain ⟨i, hi, rfl, K, D9⟩ := hrel
              by_cases hi10 : i < 10
              · have q0 : (0 : Int) ≤ (i : Int) := by omega
                have q1 : (i : Int) < 10 := by omega
                have lw : ((copyC cD).now.getD i (false, [])).2.length ≤ 1000000 := by have := LN.out i; show (cD.now.getD i (false, [])).2.length ≤ _; omega
                have lc : ((turnC cD k0 t0).now.getD i (false, [])).2.length ≤ 1000000 := by
                  by_cases hk : i = k0
                  · subst hk
                    by_cases hy : t0 < (cD.now.getD i (false, [])).2.length
                    · rw [TW.out.2.1 hy, getD_set, if_pos ⟨rfl, by rw [ND.out]; exact hi10⟩]
                      show (flipA _ _).length ≤ _
                      unfold flipA; rw [List.length_set]; have := LN.out i; omega
                    · rw [TW.out.2.2 hy]; have := LN.out i; omega
                  · rw [turn_other cD k0 t0 i hk]; have := LN.out i; omega
                have G1 := Lib.hid (get_any g i hi10 (turnC cD k0 t0) wr K.out.dk lc)
                have G2 := Lib.hid (fun W (h : DK W g9 (copyC cD)) => get_any g9 i hi10 (copyC cD) W h lw)
                have HI := Lib.hid hi10
                clear lw lc hi10
                go_wp2_with fail
                refine G1.out.mono ?_
                rintro e w6 ⟨qx, rfl, hql, hqi, x6⟩
                have K6 := Lib.hid (K.out.ext x6)
                have D6 := Lib.hid (DK.ext D9.out x6)
                have Q6 := Lib.hid hqi
                have QL := Lib.hid hql
                have G3 := Lib.hid (G2.out w6 D6.out)
                clear G1 G2 K D9 hql hqi x6
                go_wp2_with fail
                refine G3.out.mono ?_
                rintro e w7 ⟨qy, rfl, hql, hqi, x7⟩
                have K7 := Lib.hid (K6.out.ext x7)
                have D7 := Lib.hid (DK.ext D6.out x7)
                have Q7 := Lib.hid (Sm.Pt.In.ext Q6.out x7)
                have R7 := Lib.hid hqi
                have RL := Lib.hid hql
                clear G3 K6 D6 Q6 hql hqi x7
                obtain ⟨xa, xn, xc, hxv⟩ : ∃ (a : Option Addr) (n c : Nat), a = qx.ad ∧ n = qx.l.length ∧ c = qx.cap := ⟨_, _, _, rfl, rfl, rfl⟩
                obtain ⟨ya, yn, yc, hyv⟩ : ∃ (a : Option Addr) (n c : Nat), a = qy.ad ∧ n = qy.l.length ∧ c = qy.cap := ⟨_, _, _, rfl, rfl, rfl⟩
                have VX := Lib.hid (show qx.V = .slice xa xn xc by rw [hxv.1, hxv.2.1, hxv.2.2]; rfl)
                have VY := Lib.hid (show qy.V = .slice ya yn yc by rw [hyv.1, hyv.2.1, hyv.2.2]; rfl)
                have HXV := Lib.hid hxv
                have HYV := Lib.hid hyv
                rw [VX.out, VY.out]
                clear hxv hyv
                generalize getB (turnC cD k0 t0) i = bb1
                generalize getB (copyC cD) i = bb2
                by_cases hk : i = k0
                · subst hk
                  go_wp2_with fail
                  obtain ⟨T, hT⟩ : ∃ T : List (Option Value), T = [some (.int .i64 i), some (.int .i64 i), some (.bool false), some (.bool false), none, none, none, none, none, some (.bool false), some (.bool false), some (.int .i64 i), some (.int .i64 i), some (.bool true), some (.bool true), some (.bool false), some (.bool false), some (.bool false), none, none, none, none, none, some (undef), none, none, none, none, none, none, none, none, none, none, none, some (.bool false), some (.bool false)] := ⟨_, rfl⟩
                  refine wp_region_gen (JL w7 T 1000 1001 0 #[] #[]) (by kernel_rfl) (by kernel_rfl) (by kernel_rfl) (fitB_spec (by kernel_rfl)) (fun listed f h => JL.start _ listed f h) ?_ ?_
                  · intro i o ho
                    have hi : i < 37 := (Array.getElem?_eq_some_iff.1 ho).1
                    have hi' : i = 0 ∨ i = 1 ∨ i = 2 ∨ i = 3 ∨ i = 4 ∨ i = 5 ∨ i = 6 ∨ i = 7 ∨ i = 8 ∨ i = 9 ∨ i = 10 ∨ i = 11 ∨ i = 12 ∨ i = 13 ∨ i = 14 ∨ i = 15 ∨ i = 16 ∨ i = 17 ∨ i = 18 ∨ i = 19 ∨ i = 20 ∨ i = 21 ∨ i = 22 ∨ i = 23 ∨ i = 24 ∨ i = 25 ∨ i = 26 ∨ i = 27 ∨ i = 28 ∨ i = 29 ∨ i = 30 ∨ i = 31 ∨ i = 32 ∨ i = 33 ∨ i = 34 ∨ i = 35 ∨ i = 36 := by omega
                    clear hi
                    rcases hi' with rfl | rfl | rfl | rfl | rfl | rfl | rfl | rfl | rfl | rfl | rfl | rfl | rfl | rfl | rfl | rfl | rfl | rfl | rfl | rfl | rfl | rfl | rfl | rfl | rfl | rfl | rfl | rfl | rfl | rfl | rfl | rfl | rfl | rfl | rfl | rfl | rfl
                    all_goals (simp only [List.getElem?_toArray, List.getElem?_cons_zero, List.getElem?_cons_succ, Option.some.injEq] at ho; subst ho; intro listed f a w2 hJ hsz hls hun hdep hout hlat)
                    · rw [if_pos (by rfl)]
                      intro K hK
                      have q13 := hout 13 (outB_spec (by kernel_rfl))
                      refine wp_mv _ rfl (hK _ _ ?_)
                      rw [show a.eval (.tmp 13) = .int .i64 i from q13]
                      exact hJ.plain (by decide) (by decide) (Ex.refl _) (fun x hx => by rw [hT] at hx; first | exact Option.some.inj hx | simpa using hx)
                    · rw [if_pos (by rfl)]
                      intro K hK
                      have q10 := hout 10 (outB_spec (by kernel_rfl))
                      refine wp_mv _ rfl (hK _ _ ?_)
                      rw [show a.eval (.tmp 10) = .int .i64 i from q10]
                      exact hJ.plain (by decide) (by decide) (Ex.refl _) (fun x hx => by rw [hT] at hx; first | exact Option.some.inj hx | simpa using hx)
                    · rw [if_pos (by rfl)]
                      intro K hK
                      have q95 := (hdep ⟨0, .data⟩ (by simp) rfl).2 _ rfl _ rfl
                      rw [show f 0 = _ from hJ.vals 0 (hdep ⟨0, .data⟩ (by simp) rfl).1 (.int .i64 i) (by rw [hT]; rfl)] at q95
                      have q96 := (hdep ⟨1, .data⟩ (by simp) rfl).2 _ rfl _ rfl
                      rw [show f 1 = _ from hJ.vals 1 (hdep ⟨1, .data⟩ (by simp) rfl).1 (.int .i64 i) (by rw [hT]; rfl)] at q96
                      rw [Array.getD_eq_getD_getElem?] at q95
                      rw [Array.getD_eq_getD_getElem?] at q96
                      clear hsz hdep hout hlat
                      go_simp
                      exact hK _ _ (hJ.plain (by decide) (by decide) (Ex.refl _) (fun x hx => by rw [hT] at hx; first | exact Option.some.inj hx | simpa using hx))
                    · rw [if_pos (by rfl)]
                      intro K hK
                      have q97 := (hdep ⟨2, .data⟩ (by simp) rfl).2 _ rfl _ rfl
                      rw [show f 2 = _ from hJ.vals 2 (hdep ⟨2, .data⟩ (by simp) rfl).1 (.bool false) (by rw [hT]; rfl)] at q97
                      refine wp_mv _ rfl (hK _ _ ?_)
                      rw [show a.eval (.tmp 97) = .bool false from q97]
                      exact hJ.plain (by decide) (by decide) (Ex.refl _) (fun x hx => by rw [hT] at hx; first | exact Option.some.inj hx | simpa using hx)
                    · have kg := (hdep ⟨3, .guard⟩ (by simp) rfl).2 _ rfl _ rfl
                      rw [show f 3 = _ from hJ.vals 3 (hdep ⟨3, .guard⟩ (by simp) rfl).1 (.bool false) (by rw [hT]; rfl)] at kg
                      rw [if_neg (not_wanted rfl rfl rfl kg (by decide))]
                      exact hJ.plain (by decide) (by decide) (Ex.refl _) (fun x hx => by rw [hT] at hx; change none = some x at hx; cases hx)
                    · have kg := (hdep ⟨3, .guard⟩ (by simp) rfl).2 _ rfl _ rfl
                      rw [show f 3 = _ from hJ.vals 3 (hdep ⟨3, .guard⟩ (by simp) rfl).1 (.bool false) (by rw [hT]; rfl)] at kg
                      rw [if_neg (not_wanted rfl rfl rfl kg (by decide))]
                      exact hJ.plain (by decide) (by decide) (Ex.refl _) (fun x hx => by rw [hT] at hx; change none = some x at hx; cases hx)
                    · have kg := (hdep ⟨3, .guard⟩ (by simp) rfl).2 _ rfl _ rfl
                      rw [show f 3 = _ from hJ.vals 3 (hdep ⟨3, .guard⟩ (by simp) rfl).1 (.bool false) (by rw [hT]; rfl)] at kg
                      rw [if_neg (not_wanted rfl rfl rfl kg (by decide))]
                      exact hJ.plain (by decide) (by decide) (Ex.refl _) (fun x hx => by rw [hT] at hx; change none = some x at hx; cases hx)
                    · have kg := (hdep ⟨3, .guard⟩ (by simp) rfl).2 _ rfl _ rfl
                      rw [show f 3 = _ from hJ.vals 3 (hdep ⟨3, .guard⟩ (by simp) rfl).1 (.bool false) (by rw [hT]; rfl)] at kg
                      rw [if_neg (not_wanted rfl rfl rfl kg (by decide))]
                      exact hJ.plain (by decide) (by decide) (Ex.refl _) (fun x hx => by rw [hT] at hx; change none = some x at hx; cases hx)
                    · have kg := (hdep ⟨3, .guard⟩ (by simp) rfl).2 _ rfl _ rfl
                      rw [show f 3 = _ from hJ.vals 3 (hdep ⟨3, .guard⟩ (by simp) rfl).1 (.bool false) (by rw [hT]; rfl)] at kg
                      rw [if_neg (not_wanted rfl rfl rfl kg (by decide))]
                      exact hJ.plain (by decide) (by decide) (Ex.refl _) (fun x hx => by rw [hT] at hx; change none = some x at hx; cases hx)
                    · rw [if_pos (by rfl)]
                      intro K hK
                      have q98 := (hdep ⟨3, .data⟩ (by simp) rfl).2 _ rfl _ rfl
                      rw [show f 3 = _ from hJ.vals 3 (hdep ⟨3, .data⟩ (by simp) rfl).1 (.bool false) (by rw [hT]; rfl)] at q98
                      have q103 := (hdep ⟨8, .data⟩ (by simp) rfl).2 _ rfl _ rfl
                      rw [Array.getD_eq_getD_getElem?] at q98
                      rw [Array.getD_eq_getD_getElem?] at q103
                      clear hsz hdep hout hlat
                      go_simp
                      exact hK _ _ (hJ.plain (by decide) (by decide) (Ex.refl _) (fun x hx => by rw [hT] at hx; first | exact Option.some.inj hx | simpa using hx))
                    · rw [if_pos (by rfl)]
                      intro K hK
                      have q104 := (hdep ⟨9, .data⟩ (by simp) rfl).2 _ rfl _ rfl
                      rw [show f 9 = _ from hJ.vals 9 (hdep ⟨9, .data⟩ (by simp) rfl).1 (.bool false) (by rw [hT]; rfl)] at q104
                      refine wp_mv _ rfl (hK _ _ ?_)
                      rw [show a.eval (.tmp 104) = .bool false from q104]
                      exact hJ.plain (by decide) (by decide) (Ex.refl _) (fun x hx => by rw [hT] at hx; first | exact Option.some.inj hx | simpa using hx)
                    · have kg := (hdep ⟨10, .guard⟩ (by simp) rfl).2 _ rfl _ rfl
                      rw [show f 10 = _ from hJ.vals 10 (hdep ⟨10, .guard⟩ (by simp) rfl).1 (.bool false) (by rw [hT]; rfl)] at kg
                      rw [if_pos (wanted_of rfl rfl rfl kg)]
                      intro K hK
                      have q13 := hout 13 (outB_spec (by kernel_rfl))
                      refine wp_mv _ rfl (hK _ _ ?_)
                      rw [show a.eval (.tmp 13) = .int .i64 i from q13]
                      exact hJ.plain (by decide) (by decide) (Ex.refl _) (fun x hx => by rw [hT] at hx; first | exact Option.some.inj hx | simpa using hx)
                    · have kg := (hdep ⟨10, .guard⟩ (by simp) rfl).2 _ rfl _ rfl
                      rw [show f 10 = _ from hJ.vals 10 (hdep ⟨10, .guard⟩ (by simp) rfl).1 (.bool false) (by rw [hT]; rfl)] at kg
                      rw [if_pos (wanted_of rfl rfl rfl kg)]
                      intro K hK
                      have q10 := hout 10 (outB_spec (by kernel_rfl))
                      refine wp_mv _ rfl (hK _ _ ?_)
                      rw [show a.eval (.tmp 10) = .int .i64 i from q10]
                      exact hJ.plain (by decide) (by decide) (Ex.refl _) (fun x hx => by rw [hT] at hx; first | exact Option.some.inj hx | simpa using hx)
                    · have kg := (hdep ⟨10, .guard⟩ (by simp) rfl).2 _ rfl _ rfl
                      rw [show f 10 = _ from hJ.vals 10 (hdep ⟨10, .guard⟩ (by simp) rfl).1 (.bool false) (by rw [hT]; rfl)] at kg
                      rw [if_pos (wanted_of rfl rfl rfl kg)]
                      intro K hK
                      have q106 := (hdep ⟨11, .data⟩ (by simp) rfl).2 _ rfl _ rfl
                      rw [show f 11 = _ from hJ.vals 11 (hdep ⟨11, .data⟩ (by simp) rfl).1 (.int .i64 i) (by rw [hT]; rfl)] at q106
                      have q107 := (hdep ⟨12, .data⟩ (by simp) rfl).2 _ rfl _ rfl
                      rw [show f 12 = _ from hJ.vals 12 (hdep ⟨12, .data⟩ (by simp) rfl).1 (.int .i64 i) (by rw [hT]; rfl)] at q107
                      rw [Array.getD_eq_getD_getElem?] at q106
                      rw [Array.getD_eq_getD_getElem?] at q107
                      clear hsz hdep hout hlat
                      go_simp
                      exact hK _ _ (hJ.plain (by decide) (by decide) (Ex.refl _) (fun x hx => by rw [hT] at hx; first | exact Option.some.inj hx | simpa using hx))
                    · have kg := (hdep ⟨10, .guard⟩ (by simp) rfl).2 _ rfl _ rfl
                      rw [show f 10 = _ from hJ.vals 10 (hdep ⟨10, .guard⟩ (by simp) rfl).1 (.bool false) (by rw [hT]; rfl)] at kg
                      rw [if_pos (wanted_of rfl rfl rfl kg)]
                      intro K hK
                      have q108 := (hdep ⟨13, .data⟩ (by simp) rfl).2 _ rfl _ rfl
                      rw [show f 13 = _ from hJ.vals 13 (hdep ⟨13, .data⟩ (by simp) rfl).1 (.bool true) (by rw [hT]; rfl)] at q108
                      refine wp_mv _ rfl (hK _ _ ?_)
                      rw [show a.eval (.tmp 108) = .bool true from q108]
                      exact hJ.plain (by decide) (by decide) (Ex.refl _) (fun x hx => by rw [hT] at hx; first | exact Option.some.inj hx | simpa using hx)
                    · have kg := (hdep ⟨14, .guard⟩ (by simp) rfl).2 _ rfl _ rfl
                      rw [show f 14 = _ from hJ.vals 14 (hdep ⟨14, .guard⟩ (by simp) rfl).1 (.bool true) (by rw [hT]; rfl)] at kg
                      rw [if_pos (wanted_of rfl rfl rfl kg)]
                      intro K hK
                      have q12 := hout 12 (outB_spec (by kernel_rfl))
                      refine wp_mv _ rfl (hK _ _ ?_)
                      rw [show a.eval (.tmp 12) = .bool false from q12]
                      exact hJ.plain (by decide) (by decide) (Ex.refl _) (fun x hx => by rw [hT] at hx; first | exact Option.some.inj hx | simpa using hx)
                    · have kg := (hdep ⟨10, .guard⟩ (by simp) rfl).2 _ rfl _ rfl
                      rw [show f 10 = _ from hJ.vals 10 (hdep ⟨10, .guard⟩ (by simp) rfl).1 (.bool false) (by rw [hT]; rfl)] at kg
                      rw [if_pos (wanted_of rfl rfl rfl kg)]
                      intro K hK
                      have q109 := (hdep ⟨14, .data⟩ (by simp) rfl).2 _ rfl _ rfl
                      rw [show f 14 = _ from hJ.vals 14 (hdep ⟨14, .data⟩ (by simp) rfl).1 (.bool true) (by rw [hT]; rfl)] at q109
                      have q110 := (hdep ⟨15, .data⟩ (by simp) rfl).2 _ rfl _ rfl
                      rw [show f 15 = _ from hJ.vals 15 (hdep ⟨15, .data⟩ (by simp) rfl).1 (.bool false) (by rw [hT]; rfl)] at q110
                      rw [Array.getD_eq_getD_getElem?] at q109
                      rw [Array.getD_eq_getD_getElem?] at q110
                      clear hsz hdep hout hlat
                      go_simp
                      exact hK _ _ (hJ.plain (by decide) (by decide) (Ex.refl _) (fun x hx => by rw [hT] at hx; first | exact Option.some.inj hx | simpa using hx))
                    · have kg := (hdep ⟨10, .guard⟩ (by simp) rfl).2 _ rfl _ rfl
                      rw [show f 10 = _ from hJ.vals 10 (hdep ⟨10, .guard⟩ (by simp) rfl).1 (.bool false) (by rw [hT]; rfl)] at kg
                      rw [if_pos (wanted_of rfl rfl rfl kg)]
                      intro K hK
                      have q111 := (hdep ⟨16, .data⟩ (by simp) rfl).2 _ rfl _ rfl
                      rw [show f 16 = _ from hJ.vals 16 (hdep ⟨16, .data⟩ (by simp) rfl).1 (.bool false) (by rw [hT]; rfl)] at q111
                      refine wp_mv _ rfl (hK _ _ ?_)
                      rw [show a.eval (.tmp 111) = .bool false from q111]
                      exact hJ.plain (by decide) (by decide) (Ex.refl _) (fun x hx => by rw [hT] at hx; first | exact Option.some.inj hx | simpa using hx)
                    · have kg := (hdep ⟨17, .guard⟩ (by simp) rfl).2 _ rfl _ rfl
                      rw [show f 17 = _ from hJ.vals 17 (hdep ⟨17, .guard⟩ (by simp) rfl).1 (.bool false) (by rw [hT]; rfl)] at kg
                      rw [if_neg (not_wanted rfl rfl rfl kg (by decide))]
                      exact hJ.plain (by decide) (by decide) (Ex.refl _) (fun x hx => by rw [hT] at hx; change none = some x at hx; cases hx)
                    · have kg := (hdep ⟨17, .guard⟩ (by simp) rfl).2 _ rfl _ rfl
                      rw [show f 17 = _ from hJ.vals 17 (hdep ⟨17, .guard⟩ (by simp) rfl).1 (.bool false) (by rw [hT]; rfl)] at kg
                      rw [if_neg (not_wanted rfl rfl rfl kg (by decide))]
                      exact hJ.plain (by decide) (by decide) (Ex.refl _) (fun x hx => by rw [hT] at hx; change none = some x at hx; cases hx)
                    · have kg := (hdep ⟨17, .guard⟩ (by simp) rfl).2 _ rfl _ rfl
                      rw [show f 17 = _ from hJ.vals 17 (hdep ⟨17, .guard⟩ (by simp) rfl).1 (.bool false) (by rw [hT]; rfl)] at kg
                      rw [if_neg (not_wanted rfl rfl rfl kg (by decide))]
                      exact hJ.plain (by decide) (by decide) (Ex.refl _) (fun x hx => by rw [hT] at hx; change none = some x at hx; cases hx)
                    · have kg := (hdep ⟨17, .guard⟩ (by simp) rfl).2 _ rfl _ rfl
                      rw [show f 17 = _ from hJ.vals 17 (hdep ⟨17, .guard⟩ (by simp) rfl).1 (.bool false) (by rw [hT]; rfl)] at kg
                      rw [if_neg (not_wanted rfl rfl rfl kg (by decide))]
                      exact hJ.plain (by decide) (by decide) (Ex.refl _) (fun x hx => by rw [hT] at hx; change none = some x at hx; cases hx)
                    · have kg := (hdep ⟨17, .guard⟩ (by simp) rfl).2 _ rfl _ rfl
                      rw [show f 17 = _ from hJ.vals 17 (hdep ⟨17, .guard⟩ (by simp) rfl).1 (.bool false) (by rw [hT]; rfl)] at kg
                      rw [if_neg (not_wanted rfl rfl rfl kg (by decide))]
                      exact hJ.plain (by decide) (by decide) (Ex.refl _) (fun x hx => by rw [hT] at hx; change none = some x at hx; cases hx)
                    · have kg := (hdep ⟨17, .guard⟩ (by simp) rfl).2 _ rfl _ rfl
                      rw [show f 17 = _ from hJ.vals 17 (hdep ⟨17, .guard⟩ (by simp) rfl).1 (.bool false) (by rw [hT]; rfl)] at kg
                      rw [if_neg (not_wanted rfl rfl rfl kg (by decide))]
                      exact hJ.plain (by decide) (by decide) (Ex.refl _) (fun x hx => by rw [hT] at hx; first | exact Option.some.inj hx | simpa using hx)
                    · have kg := (hdep ⟨23, .guard⟩ (by simp) rfl).2 _ rfl _ rfl
                      rw [show f 23 = _ from hJ.vals 23 (hdep ⟨23, .guard⟩ (by simp) rfl).1 (undef) (by rw [hT]; rfl)] at kg
                      rw [if_neg (not_wanted_x rfl rfl rfl kg (by simp [undef]))]
                      exact hJ.plain (by decide) (by decide) (Ex.refl _) (fun x hx => by rw [hT] at hx; change none = some x at hx; cases hx)
                    · have kg := (hdep ⟨23, .guard⟩ (by simp) rfl).2 _ rfl _ rfl
                      rw [show f 23 = _ from hJ.vals 23 (hdep ⟨23, .guard⟩ (by simp) rfl).1 (undef) (by rw [hT]; rfl)] at kg
                      rw [if_neg (not_wanted_x rfl rfl rfl kg (by simp [undef]))]
                      exact hJ.plain (by decide) (by decide) (Ex.refl _) (fun x hx => by rw [hT] at hx; change none = some x at hx; cases hx)
                    · have kg := (hdep ⟨23, .guard⟩ (by simp) rfl).2 _ rfl _ rfl
                      rw [show f 23 = _ from hJ.vals 23 (hdep ⟨23, .guard⟩ (by simp) rfl).1 (undef) (by rw [hT]; rfl)] at kg
                      rw [if_neg (not_wanted_x rfl rfl rfl kg (by simp [undef]))]
                      exact hJ.plain (by decide) (by decide) (Ex.refl _) (fun x hx => by rw [hT] at hx; change none = some x at hx; cases hx)
                    · have kg := (hdep ⟨23, .guard⟩ (by simp) rfl).2 _ rfl _ rfl
                      rw [show f 23 = _ from hJ.vals 23 (hdep ⟨23, .guard⟩ (by simp) rfl).1 (undef) (by rw [hT]; rfl)] at kg
                      rw [if_neg (not_wanted_x rfl rfl rfl kg (by simp [undef]))]
                      exact hJ.plain (by decide) (by decide) (Ex.refl _) (fun x hx => by rw [hT] at hx; change none = some x at hx; cases hx)
                    · have kg := (hdep ⟨23, .guard⟩ (by simp) rfl).2 _ rfl _ rfl
                      rw [show f 23 = _ from hJ.vals 23 (hdep ⟨23, .guard⟩ (by simp) rfl).1 (undef) (by rw [hT]; rfl)] at kg
                      rw [if_neg (not_wanted_x rfl rfl rfl kg (by simp [undef]))]
                      exact hJ.plain (by decide) (by decide) (Ex.refl _) (fun x hx => by rw [hT] at hx; change none = some x at hx; cases hx)
                    · have kg := (hdep ⟨23, .guard⟩ (by simp) rfl).2 _ rfl _ rfl
                      rw [show f 23 = _ from hJ.vals 23 (hdep ⟨23, .guard⟩ (by simp) rfl).1 (undef) (by rw [hT]; rfl)] at kg
                      rw [if_neg (not_wanted_x rfl rfl rfl kg (by simp [undef]))]
                      exact hJ.plain (by decide) (by decide) (Ex.refl _) (fun x hx => by rw [hT] at hx; change none = some x at hx; cases hx)
                    · have kg := (hdep ⟨23, .guard⟩ (by simp) rfl).2 _ rfl _ rfl
                      rw [show f 23 = _ from hJ.vals 23 (hdep ⟨23, .guard⟩ (by simp) rfl).1 (undef) (by rw [hT]; rfl)] at kg
                      rw [if_neg (not_wanted_x rfl rfl rfl kg (by simp [undef]))]
                      exact hJ.plain (by decide) (by decide) (Ex.refl _) (fun x hx => by rw [hT] at hx; change none = some x at hx; cases hx)
                    · have kg := (hdep ⟨23, .guard⟩ (by simp) rfl).2 _ rfl _ rfl
                      rw [show f 23 = _ from hJ.vals 23 (hdep ⟨23, .guard⟩ (by simp) rfl).1 (undef) (by rw [hT]; rfl)] at kg
                      rw [if_neg (not_wanted_x rfl rfl rfl kg (by simp [undef]))]
                      exact hJ.plain (by decide) (by decide) (Ex.refl _) (fun x hx => by rw [hT] at hx; change none = some x at hx; cases hx)
                    · have kg := (hdep ⟨23, .guard⟩ (by simp) rfl).2 _ rfl _ rfl
                      rw [show f 23 = _ from hJ.vals 23 (hdep ⟨23, .guard⟩ (by simp) rfl).1 (undef) (by rw [hT]; rfl)] at kg
                      rw [if_neg (not_wanted_x rfl rfl rfl kg (by simp [undef]))]
                      exact hJ.plain (by decide) (by decide) (Ex.refl _) (fun x hx => by rw [hT] at hx; change none = some x at hx; cases hx)
                    · have kg := (hdep ⟨23, .guard⟩ (by simp) rfl).2 _ rfl _ rfl
                      rw [show f 23 = _ from hJ.vals 23 (hdep ⟨23, .guard⟩ (by simp) rfl).1 (undef) (by rw [hT]; rfl)] at kg
                      rw [if_neg (not_wanted_x rfl rfl rfl kg (by simp [undef]))]
                      exact hJ.plain (by decide) (by decide) (Ex.refl _) (fun x hx => by rw [hT] at hx; change none = some x at hx; cases hx)
                    · have kg := (hdep ⟨17, .guard⟩ (by simp) rfl).2 _ rfl _ rfl
                      rw [show f 17 = _ from hJ.vals 17 (hdep ⟨17, .guard⟩ (by simp) rfl).1 (.bool false) (by rw [hT]; rfl)] at kg
                      rw [if_neg (not_wanted rfl rfl rfl kg (by decide))]
                      exact hJ.plain (by decide) (by decide) (Ex.refl _) (fun x hx => by rw [hT] at hx; change none = some x at hx; cases hx)
                    · have kg := (hdep ⟨10, .guard⟩ (by simp) rfl).2 _ rfl _ rfl
                      rw [show f 10 = _ from hJ.vals 10 (hdep ⟨10, .guard⟩ (by simp) rfl).1 (.bool false) (by rw [hT]; rfl)] at kg
                      rw [if_pos (wanted_of rfl rfl rfl kg)]
                      intro K hK
                      have q112 := (hdep ⟨17, .data⟩ (by simp) rfl).2 _ rfl _ rfl
                      rw [show f 17 = _ from hJ.vals 17 (hdep ⟨17, .data⟩ (by simp) rfl).1 (.bool false) (by rw [hT]; rfl)] at q112
                      have q129 := (hdep ⟨34, .data⟩ (by simp) rfl).2 _ rfl _ rfl
                      rw [Array.getD_eq_getD_getElem?] at q112
                      rw [Array.getD_eq_getD_getElem?] at q129
                      clear hsz hdep hout hlat
                      go_simp
                      exact hK _ _ (hJ.plain (by decide) (by decide) (Ex.refl _) (fun x hx => by rw [hT] at hx; first | exact Option.some.inj hx | simpa using hx))
                    · rw [if_pos (by rfl)]
                      intro K hK
                      have q105 := (hdep ⟨10, .data⟩ (by simp) rfl).2 _ rfl _ rfl
                      rw [show f 10 = _ from hJ.vals 10 (hdep ⟨10, .data⟩ (by simp) rfl).1 (.bool false) (by rw [hT]; rfl)] at q105
                      have q130 := (hdep ⟨35, .data⟩ (by simp) rfl).2 _ rfl _ rfl
                      rw [show f 35 = _ from hJ.vals 35 (hdep ⟨35, .data⟩ (by simp) rfl).1 (.bool false) (by rw [hT]; rfl)] at q130
                      rw [Array.getD_eq_getD_getElem?] at q105
                      rw [Array.getD_eq_getD_getElem?] at q130
                      clear hsz hdep hout hlat
                      go_simp
                      exact hK _ _ (hJ.plain (by decide) (by decide) (Ex.refl _) (fun x hx => by rw [hT] at hx; first | exact Option.some.inj hx | simpa using hx))
                  · intro listed f w2 hall hJ
                    have f0 : f 0 = .int .i64 i := hJ.vals 0 (hall 0 (by simp)) _ (by rw [hT]; rfl)
                    have f1 : f 1 = .int .i64 i := hJ.vals 1 (hall 1 (by simp)) _ (by rw [hT]; rfl)
                    have f2 : f 2 = .bool false := hJ.vals 2 (hall 2 (by simp)) _ (by rw [hT]; rfl)
                    have f3 : f 3 = .bool false := hJ.vals 3 (hall 3 (by simp)) _ (by rw [hT]; rfl)
                    have f9 : f 9 = .bool false := hJ.vals 9 (hall 9 (by simp)) _ (by rw [hT]; rfl)
                    have f10 : f 10 = .bool false := hJ.vals 10 (hall 10 (by simp)) _ (by rw [hT]; rfl)
                    have f11 : f 11 = .int .i64 i := hJ.vals 11 (hall 11 (by simp)) _ (by rw [hT]; rfl)
                    have f12 : f 12 = .int .i64 i := hJ.vals 12 (hall 12 (by simp)) _ (by rw [hT]; rfl)
                    have f13 : f 13 = .bool true := hJ.vals 13 (hall 13 (by simp)) _ (by rw [hT]; rfl)
                    have f14 : f 14 = .bool true := hJ.vals 14 (hall 14 (by simp)) _ (by rw [hT]; rfl)
                    have f15 : f 15 = .bool false := hJ.vals 15 (hall 15 (by simp)) _ (by rw [hT]; rfl)
                    have f16 : f 16 = .bool false := hJ.vals 16 (hall 16 (by simp)) _ (by rw [hT]; rfl)
                    have f17 : f 17 = .bool false := hJ.vals 17 (hall 17 (by simp)) _ (by rw [hT]; rfl)
                    have f23 : f 23 = undef := hJ.vals 23 (hall 23 (by simp)) _ (by rw [hT]; rfl)
                    have f35 : f 35 = .bool false := hJ.vals 35 (hall 35 (by simp)) _ (by rw [hT]; rfl)
                    have f36 : f 36 = .bool false := hJ.vals 36 (hall 36 (by simp)) _ (by rw [hT]; rfl)
                    have xw := hJ.ext
                    simp only [putAll, Act.put, List.setIfInBounds_toArray, List.set_cons_zero, List.set_cons_succ, Nat.zero_add, Nat.reduceAdd]
                    rw [f0, f1, f2, f3, f9, f10, f11, f12, f13, f14, f15, f16, f17, f23, f35, f36]
                    clear f0 f1 f2 f3 f9 f10 f11 f12 f13 f14 f15 f16 f17 f23 f35 f36 hJ hall hT
                    generalize f 4 = y4
                    generalize f 5 = y5
                    generalize f 6 = y6
                    generalize f 7 = y7
                    generalize f 8 = y8
                    generalize f 18 = y18
                    generalize f 19 = y19
                    generalize f 20 = y20
                    generalize f 21 = y21
                    generalize f 22 = y22
                    generalize f 24 = y24
                    generalize f 25 = y25
                    generalize f 26 = y26
                    generalize f 27 = y27
                    generalize f 28 = y28
                    generalize f 29 = y29
                    generalize f 30 = y30
                    generalize f 31 = y31
                    generalize f 32 = y32
                    generalize f 33 = y33
                    generalize f 34 = y34
                    have K8 := Lib.hid (K7.out.ext xw)
                    have D8 := Lib.hid (DK.ext D7.out xw)
                    clear xw K7 D7
                    go_wp2_with fail
                    go_roundw
                    case rel => exact ⟨i + 1, by omega, by go_num, K8, D8⟩
                    case measure => simp [intOf]; omega
                · have hgb : getB (turnC cD k0 t0) i = getB (copyC cD) i := by unfold getB; rw [turn_other cD k0 t0 i hk]; rfl
                  have hgl : getL (turnC cD k0 t0) i = getL (copyC cD) i := by unfold getL; rw [hgb, turn_other cD k0 t0 i hk]; rfl
                  obtain ⟨st, hst⟩ : ∃ s, s = strL (getL (copyC cD) i) := ⟨_, rfl⟩
                  have CV1 := Lib.hid (fun W (x : Ex w7 W) => (show (convert 27 9 (.slice xa xn xc)).run Try.prog W = .ok (.string st) W by
                    have h := pt_conv qx W (Sm.Pt.In.ext Q7.out x)
                    rw [hst, ← hgl, ← QL.out, HXV.out.1, HXV.out.2.1, HXV.out.2.2]; exact h))
                  have CV2 := Lib.hid (fun W (x : Ex w7 W) => (show (convert 27 9 (.slice ya yn yc)).run Try.prog W = .ok (.string st) W by
                    have h := pt_conv qy W (Sm.Pt.In.ext R7.out x)
                    rw [hst, ← RL.out, HYV.out.1, HYV.out.2.1, HYV.out.2.2]; exact h))
                  have HNE := Lib.hid (show ((i : Int) != (k0 : Int)) = true by simp; omega)
                  have HNE2 := Lib.hid (show ((i : Int) == (k0 : Int)) = false by simp; omega)
                  clear hgb hgl hst hk
                  go_wp2_with fail
                  obtain ⟨T, hT⟩ : ∃ T : List (Option Value), T = [some (.int .i64 i), some (.int .i64 k0), some (.bool true), some (.bool true), some (.slice xa xn xc), some (.string st), some (.slice ya yn yc), some (.string st), some (.bool false), some (.bool false), some (.bool false), some (.int .i64 i), some (.int .i64 k0), some (.bool false), some (.bool false), none, some (.bool false), some (.bool false), none, none, none, none, none, some (undef), none, none, none, none, none, none, none, none, none, none, none, some (.bool false), some (.bool false)] := ⟨_, rfl⟩
                  refine wp_region_gen (JL w7 T 1000 1001 0 #[] #[]) (by kernel_rfl) (by kernel_rfl) (by kernel_rfl) (fitB_spec (by kernel_rfl)) (fun listed f h => JL.start _ listed f h) ?_ ?_
                  · intro i o ho
                    have hi : i < 37 := (Array.getElem?_eq_some_iff.1 ho).1
                    have hi' : i = 0 ∨ i = 1 ∨ i = 2 ∨ i = 3 ∨ i = 4 ∨ i = 5 ∨ i = 6 ∨ i = 7 ∨ i = 8 ∨ i = 9 ∨ i = 10 ∨ i = 11 ∨ i = 12 ∨ i = 13 ∨ i = 14 ∨ i = 15 ∨ i = 16 ∨ i = 17 ∨ i = 18 ∨ i = 19 ∨ i = 20 ∨ i = 21 ∨ i = 22 ∨ i = 23 ∨ i = 24 ∨ i = 25 ∨ i = 26 ∨ i = 27 ∨ i = 28 ∨ i = 29 ∨ i = 30 ∨ i = 31 ∨ i = 32 ∨ i = 33 ∨ i = 34 ∨ i = 35 ∨ i = 36 := by omega
                    clear hi
                    rcases hi' with rfl | rfl | rfl | rfl | rfl | rfl | rfl | rfl | rfl | rfl | rfl | rfl | rfl | rfl | rfl | rfl | rfl | rfl | rfl | rfl | rfl | rfl | rfl | rfl | rfl | rfl | rfl | rfl | rfl | rfl | rfl | rfl | rfl | rfl | rfl | rfl | rfl
                    all_goals (simp only [List.getElem?_toArray, List.getElem?_cons_zero, List.getElem?_cons_succ, Option.some.injEq] at ho; subst ho; intro listed f a w2 hJ hsz hls hun hdep hout hlat)
                    · rw [if_pos (by rfl)]
                      intro K hK
                      have q13 := hout 13 (outB_spec (by kernel_rfl))
                      refine wp_mv _ rfl (hK _ _ ?_)
                      rw [show a.eval (.tmp 13) = .int .i64 i from q13]
                      exact hJ.plain (by decide) (by decide) (Ex.refl _) (fun x hx => by rw [hT] at hx; first | exact Option.some.inj hx | simpa using hx)
                    · rw [if_pos (by rfl)]
                      intro K hK
                      have q10 := hout 10 (outB_spec (by kernel_rfl))
                      refine wp_mv _ rfl (hK _ _ ?_)
                      rw [show a.eval (.tmp 10) = .int .i64 k0 from q10]
                      exact hJ.plain (by decide) (by decide) (Ex.refl _) (fun x hx => by rw [hT] at hx; first | exact Option.some.inj hx | simpa using hx)
                    · rw [if_pos (by rfl)]
                      intro K hK
                      have q95 := (hdep ⟨0, .data⟩ (by simp) rfl).2 _ rfl _ rfl
                      rw [show f 0 = _ from hJ.vals 0 (hdep ⟨0, .data⟩ (by simp) rfl).1 (.int .i64 i) (by rw [hT]; rfl)] at q95
                      have q96 := (hdep ⟨1, .data⟩ (by simp) rfl).2 _ rfl _ rfl
                      rw [show f 1 = _ from hJ.vals 1 (hdep ⟨1, .data⟩ (by simp) rfl).1 (.int .i64 k0) (by rw [hT]; rfl)] at q96
                      rw [Array.getD_eq_getD_getElem?] at q95
                      rw [Array.getD_eq_getD_getElem?] at q96
                      have z9 := HNE.out
                      clear hsz hdep hout hlat
                      go_simp
                      exact hK _ _ (hJ.plain (by decide) (by decide) (Ex.refl _) (fun x hx => by rw [hT] at hx; first | exact Option.some.inj hx | simpa using hx))
                    · rw [if_pos (by rfl)]
                      intro K hK
                      have q97 := (hdep ⟨2, .data⟩ (by simp) rfl).2 _ rfl _ rfl
                      rw [show f 2 = _ from hJ.vals 2 (hdep ⟨2, .data⟩ (by simp) rfl).1 (.bool true) (by rw [hT]; rfl)] at q97
                      refine wp_mv _ rfl (hK _ _ ?_)
                      rw [show a.eval (.tmp 97) = .bool true from q97]
                      exact hJ.plain (by decide) (by decide) (Ex.refl _) (fun x hx => by rw [hT] at hx; first | exact Option.some.inj hx | simpa using hx)
                    · have kg := (hdep ⟨3, .guard⟩ (by simp) rfl).2 _ rfl _ rfl
                      rw [show f 3 = _ from hJ.vals 3 (hdep ⟨3, .guard⟩ (by simp) rfl).1 (.bool true) (by rw [hT]; rfl)] at kg
                      rw [if_pos (wanted_of rfl rfl rfl kg)]
                      intro K hK
                      have q14 := hout 14 (outB_spec (by kernel_rfl))
                      refine wp_mv _ rfl (hK _ _ ?_)
                      rw [show a.eval (.tmp 14) = .slice xa xn xc from q14]
                      exact hJ.plain (by decide) (by decide) (Ex.refl _) (fun x hx => by rw [hT] at hx; first | exact Option.some.inj hx | simpa using hx)
                    · have kg := (hdep ⟨3, .guard⟩ (by simp) rfl).2 _ rfl _ rfl
                      rw [show f 3 = _ from hJ.vals 3 (hdep ⟨3, .guard⟩ (by simp) rfl).1 (.bool true) (by rw [hT]; rfl)] at kg
                      rw [if_pos (wanted_of rfl rfl rfl kg)]
                      intro K hK
                      have q99 := (hdep ⟨4, .data⟩ (by simp) rfl).2 _ rfl _ rfl
                      rw [show f 4 = _ from hJ.vals 4 (hdep ⟨4, .data⟩ (by simp) rfl).1 (.slice xa xn xc) (by rw [hT]; rfl)] at q99
                      rw [Array.getD_eq_getD_getElem?] at q99
                      have cc := CV1.out w2 hJ.ext
                      clear hsz hdep hout hlat
                      go_simp
                      exact hK _ _ (hJ.plain (by decide) (by decide) (Ex.refl _) (fun x hx => by rw [hT] at hx; first | exact Option.some.inj hx | simpa using hx))
                    · have kg := (hdep ⟨3, .guard⟩ (by simp) rfl).2 _ rfl _ rfl
                      rw [show f 3 = _ from hJ.vals 3 (hdep ⟨3, .guard⟩ (by simp) rfl).1 (.bool true) (by rw [hT]; rfl)] at kg
                      rw [if_pos (wanted_of rfl rfl rfl kg)]
                      intro K hK
                      have q16 := hout 16 (outB_spec (by kernel_rfl))
                      refine wp_mv _ rfl (hK _ _ ?_)
                      rw [show a.eval (.tmp 16) = .slice ya yn yc from q16]
                      exact hJ.plain (by decide) (by decide) (Ex.refl _) (fun x hx => by rw [hT] at hx; first | exact Option.some.inj hx | simpa using hx)
                    · have kg := (hdep ⟨3, .guard⟩ (by simp) rfl).2 _ rfl _ rfl
                      rw [show f 3 = _ from hJ.vals 3 (hdep ⟨3, .guard⟩ (by simp) rfl).1 (.bool true) (by rw [hT]; rfl)] at kg
                      rw [if_pos (wanted_of rfl rfl rfl kg)]
                      intro K hK
                      have q101 := (hdep ⟨6, .data⟩ (by simp) rfl).2 _ rfl _ rfl
                      rw [show f 6 = _ from hJ.vals 6 (hdep ⟨6, .data⟩ (by simp) rfl).1 (.slice ya yn yc) (by rw [hT]; rfl)] at q101
                      rw [Array.getD_eq_getD_getElem?] at q101
                      have cc := CV2.out w2 hJ.ext
                      clear hsz hdep hout hlat
                      go_simp
                      exact hK _ _ (hJ.plain (by decide) (by decide) (Ex.refl _) (fun x hx => by rw [hT] at hx; first | exact Option.some.inj hx | simpa using hx))
                    · have kg := (hdep ⟨3, .guard⟩ (by simp) rfl).2 _ rfl _ rfl
                      rw [show f 3 = _ from hJ.vals 3 (hdep ⟨3, .guard⟩ (by simp) rfl).1 (.bool true) (by rw [hT]; rfl)] at kg
                      rw [if_pos (wanted_of rfl rfl rfl kg)]
                      intro K hK
                      have q100 := (hdep ⟨5, .data⟩ (by simp) rfl).2 _ rfl _ rfl
                      rw [show f 5 = _ from hJ.vals 5 (hdep ⟨5, .data⟩ (by simp) rfl).1 (.string st) (by rw [hT]; rfl)] at q100
                      have q102 := (hdep ⟨7, .data⟩ (by simp) rfl).2 _ rfl _ rfl
                      rw [show f 7 = _ from hJ.vals 7 (hdep ⟨7, .data⟩ (by simp) rfl).1 (.string st) (by rw [hT]; rfl)] at q102
                      rw [Array.getD_eq_getD_getElem?] at q100
                      rw [Array.getD_eq_getD_getElem?] at q102
                      clear hsz hdep hout hlat
                      go_simp
                      exact hK _ _ (hJ.plain (by decide) (by decide) (Ex.refl _) (fun x hx => by rw [hT] at hx; first | exact Option.some.inj hx | simpa using hx))
                    · rw [if_pos (by rfl)]
                      intro K hK
                      have q98 := (hdep ⟨3, .data⟩ (by simp) rfl).2 _ rfl _ rfl
                      rw [show f 3 = _ from hJ.vals 3 (hdep ⟨3, .data⟩ (by simp) rfl).1 (.bool true) (by rw [hT]; rfl)] at q98
                      have q103 := (hdep ⟨8, .data⟩ (by simp) rfl).2 _ rfl _ rfl
                      rw [show f 8 = _ from hJ.vals 8 (hdep ⟨8, .data⟩ (by simp) rfl).1 (.bool false) (by rw [hT]; rfl)] at q103
                      rw [Array.getD_eq_getD_getElem?] at q98
                      rw [Array.getD_eq_getD_getElem?] at q103
                      clear hsz hdep hout hlat
                      go_simp
                      exact hK _ _ (hJ.plain (by decide) (by decide) (Ex.refl _) (fun x hx => by rw [hT] at hx; first | exact Option.some.inj hx | simpa using hx))
                    · rw [if_pos (by rfl)]
                      intro K hK
                      have q104 := (hdep ⟨9, .data⟩ (by simp) rfl).2 _ rfl _ rfl
                      rw [show f 9 = _ from hJ.vals 9 (hdep ⟨9, .data⟩ (by simp) rfl).1 (.bool false) (by rw [hT]; rfl)] at q104
                      refine wp_mv _ rfl (hK _ _ ?_)
                      rw [show a.eval (.tmp 104) = .bool false from q104]
                      exact hJ.plain (by decide) (by decide) (Ex.refl _) (fun x hx => by rw [hT] at hx; first | exact Option.some.inj hx | simpa using hx)
                    · have kg := (hdep ⟨10, .guard⟩ (by simp) rfl).2 _ rfl _ rfl
                      rw [show f 10 = _ from hJ.vals 10 (hdep ⟨10, .guard⟩ (by simp) rfl).1 (.bool false) (by rw [hT]; rfl)] at kg
                      rw [if_pos (wanted_of rfl rfl rfl kg)]
                      intro K hK
                      have q13 := hout 13 (outB_spec (by kernel_rfl))
                      refine wp_mv _ rfl (hK _ _ ?_)
                      rw [show a.eval (.tmp 13) = .int .i64 i from q13]
                      exact hJ.plain (by decide) (by decide) (Ex.refl _) (fun x hx => by rw [hT] at hx; first | exact Option.some.inj hx | simpa using hx)
                    · have kg := (hdep ⟨10, .guard⟩ (by simp) rfl).2 _ rfl _ rfl
                      rw [show f 10 = _ from hJ.vals 10 (hdep ⟨10, .guard⟩ (by simp) rfl).1 (.bool false) (by rw [hT]; rfl)] at kg
                      rw [if_pos (wanted_of rfl rfl rfl kg)]
                      intro K hK
                      have q10 := hout 10 (outB_spec (by kernel_rfl))
                      refine wp_mv _ rfl (hK _ _ ?_)
                      rw [show a.eval (.tmp 10) = .int .i64 k0 from q10]
                      exact hJ.plain (by decide) (by decide) (Ex.refl _) (fun x hx => by rw [hT] at hx; first | exact Option.some.inj hx | simpa using hx)
                    · have kg := (hdep ⟨10, .guard⟩ (by simp) rfl).2 _ rfl _ rfl
                      rw [show f 10 = _ from hJ.vals 10 (hdep ⟨10, .guard⟩ (by simp) rfl).1 (.bool false) (by rw [hT]; rfl)] at kg
                      rw [if_pos (wanted_of rfl rfl rfl kg)]
                      intro K hK
                      have q106 := (hdep ⟨11, .data⟩ (by simp) rfl).2 _ rfl _ rfl
                      rw [show f 11 = _ from hJ.vals 11 (hdep ⟨11, .data⟩ (by simp) rfl).1 (.int .i64 i) (by rw [hT]; rfl)] at q106
                      have q107 := (hdep ⟨12, .data⟩ (by simp) rfl).2 _ rfl _ rfl
                      rw [show f 12 = _ from hJ.vals 12 (hdep ⟨12, .data⟩ (by simp) rfl).1 (.int .i64 k0) (by rw [hT]; rfl)] at q107
                      rw [Array.getD_eq_getD_getElem?] at q106
                      rw [Array.getD_eq_getD_getElem?] at q107
                      have z9 := HNE2.out
                      clear hsz hdep hout hlat
                      go_simp
                      exact hK _ _ (hJ.plain (by decide) (by decide) (Ex.refl _) (fun x hx => by rw [hT] at hx; first | exact Option.some.inj hx | simpa using hx))
                    · have kg := (hdep ⟨10, .guard⟩ (by simp) rfl).2 _ rfl _ rfl
                      rw [show f 10 = _ from hJ.vals 10 (hdep ⟨10, .guard⟩ (by simp) rfl).1 (.bool false) (by rw [hT]; rfl)] at kg
                      rw [if_pos (wanted_of rfl rfl rfl kg)]
                      intro K hK
                      have q108 := (hdep ⟨13, .data⟩ (by simp) rfl).2 _ rfl _ rfl
                      rw [show f 13 = _ from hJ.vals 13 (hdep ⟨13, .data⟩ (by simp) rfl).1 (.bool false) (by rw [hT]; rfl)] at q108
                      refine wp_mv _ rfl (hK _ _ ?_)
                      rw [show a.eval (.tmp 108) = .bool false from q108]
                      exact hJ.plain (by decide) (by decide) (Ex.refl _) (fun x hx => by rw [hT] at hx; first | exact Option.some.inj hx | simpa using hx)
                    · have kg := (hdep ⟨14, .guard⟩ (by simp) rfl).2 _ rfl _ rfl
                      rw [show f 14 = _ from hJ.vals 14 (hdep ⟨14, .guard⟩ (by simp) rfl).1 (.bool false) (by rw [hT]; rfl)] at kg
                      rw [if_neg (not_wanted rfl rfl rfl kg (by decide))]
                      exact hJ.plain (by decide) (by decide) (Ex.refl _) (fun x hx => by rw [hT] at hx; change none = some x at hx; cases hx)
                    · have kg := (hdep ⟨10, .guard⟩ (by simp) rfl).2 _ rfl _ rfl
                      rw [show f 10 = _ from hJ.vals 10 (hdep ⟨10, .guard⟩ (by simp) rfl).1 (.bool false) (by rw [hT]; rfl)] at kg
                      rw [if_pos (wanted_of rfl rfl rfl kg)]
                      intro K hK
                      have q109 := (hdep ⟨14, .data⟩ (by simp) rfl).2 _ rfl _ rfl
                      rw [show f 14 = _ from hJ.vals 14 (hdep ⟨14, .data⟩ (by simp) rfl).1 (.bool false) (by rw [hT]; rfl)] at q109
                      have q110 := (hdep ⟨15, .data⟩ (by simp) rfl).2 _ rfl _ rfl
                      rw [Array.getD_eq_getD_getElem?] at q109
                      rw [Array.getD_eq_getD_getElem?] at q110
                      clear hsz hdep hout hlat
                      go_simp
                      exact hK _ _ (hJ.plain (by decide) (by decide) (Ex.refl _) (fun x hx => by rw [hT] at hx; first | exact Option.some.inj hx | simpa using hx))
                    · have kg := (hdep ⟨10, .guard⟩ (by simp) rfl).2 _ rfl _ rfl
                      rw [show f 10 = _ from hJ.vals 10 (hdep ⟨10, .guard⟩ (by simp) rfl).1 (.bool false) (by rw [hT]; rfl)] at kg
                      rw [if_pos (wanted_of rfl rfl rfl kg)]
                      intro K hK
                      have q111 := (hdep ⟨16, .data⟩ (by simp) rfl).2 _ rfl _ rfl
                      rw [show f 16 = _ from hJ.vals 16 (hdep ⟨16, .data⟩ (by simp) rfl).1 (.bool false) (by rw [hT]; rfl)] at q111
                      refine wp_mv _ rfl (hK _ _ ?_)
                      rw [show a.eval (.tmp 111) = .bool false from q111]
                      exact hJ.plain (by decide) (by decide) (Ex.refl _) (fun x hx => by rw [hT] at hx; first | exact Option.some.inj hx | simpa using hx)
                    · have kg := (hdep ⟨17, .guard⟩ (by simp) rfl).2 _ rfl _ rfl
                      rw [show f 17 = _ from hJ.vals 17 (hdep ⟨17, .guard⟩ (by simp) rfl).1 (.bool false) (by rw [hT]; rfl)] at kg
                      rw [if_neg (not_wanted rfl rfl rfl kg (by decide))]
                      exact hJ.plain (by decide) (by decide) (Ex.refl _) (fun x hx => by rw [hT] at hx; change none = some x at hx; cases hx)
                    · have kg := (hdep ⟨17, .guard⟩ (by simp) rfl).2 _ rfl _ rfl
                      rw [show f 17 = _ from hJ.vals 17 (hdep ⟨17, .guard⟩ (by simp) rfl).1 (.bool false) (by rw [hT]; rfl)] at kg
                      rw [if_neg (not_wanted rfl rfl rfl kg (by decide))]
                      exact hJ.plain (by decide) (by decide) (Ex.refl _) (fun x hx => by rw [hT] at hx; change none = some x at hx; cases hx)
                    · have kg := (hdep ⟨17, .guard⟩ (by simp) rfl).2 _ rfl _ rfl
                      rw [show f 17 = _ from hJ.vals 17 (hdep ⟨17, .guard⟩ (by simp) rfl).1 (.bool false) (by rw [hT]; rfl)] at kg
                      rw [if_neg (not_wanted rfl rfl rfl kg (by decide))]
                      exact hJ.plain (by decide) (by decide) (Ex.refl _) (fun x hx => by rw [hT] at hx; change none = some x at hx; cases hx)
                    · have kg := (hdep ⟨17, .guard⟩ (by simp) rfl).2 _ rfl _ rfl
                      rw [show f 17 = _ from hJ.vals 17 (hdep ⟨17, .guard⟩ (by simp) rfl).1 (.bool false) (by rw [hT]; rfl)] at kg
                      rw [if_neg (not_wanted rfl rfl rfl kg (by decide))]
                      exact hJ.plain (by decide) (by decide) (Ex.refl _) (fun x hx => by rw [hT] at hx; change none = some x at hx; cases hx)
                    · have kg := (hdep ⟨17, .guard⟩ (by simp) rfl).2 _ rfl _ rfl
                      rw [show f 17 = _ from hJ.vals 17 (hdep ⟨17, .guard⟩ (by simp) rfl).1 (.bool false) (by rw [hT]; rfl)] at kg
                      rw [if_neg (not_wanted rfl rfl rfl kg (by decide))]
                      exact hJ.plain (by decide) (by decide) (Ex.refl _) (fun x hx => by rw [hT] at hx; change none = some x at hx; cases hx)
                    · have kg := (hdep ⟨17, .guard⟩ (by simp) rfl).2 _ rfl _ rfl
                      rw [show f 17 = _ from hJ.vals 17 (hdep ⟨17, .guard⟩ (by simp) rfl).1 (.bool false) (by rw [hT]; rfl)] at kg
                      rw [if_neg (not_wanted rfl rfl rfl kg (by decide))]
                      exact hJ.plain (by decide) (by decide) (Ex.refl _) (fun x hx => by rw [hT] at hx; first | exact Option.some.inj hx | simpa using hx)
                    · have kg := (hdep ⟨23, .guard⟩ (by simp) rfl).2 _ rfl _ rfl
                      rw [show f 23 = _ from hJ.vals 23 (hdep ⟨23, .guard⟩ (by simp) rfl).1 (undef) (by rw [hT]; rfl)] at kg
                      rw [if_neg (not_wanted_x rfl rfl rfl kg (by simp [undef]))]
                      exact hJ.plain (by decide) (by decide) (Ex.refl _) (fun x hx => by rw [hT] at hx; change none = some x at hx; cases hx)
                    · have kg := (hdep ⟨23, .guard⟩ (by simp) rfl).2 _ rfl _ rfl
                      rw [show f 23 = _ from hJ.vals 23 (hdep ⟨23, .guard⟩ (by simp) rfl).1 (undef) (by rw [hT]; rfl)] at kg
                      rw [if_neg (not_wanted_x rfl rfl rfl kg (by simp [undef]))]
                      exact hJ.plain (by decide) (by decide) (Ex.refl _) (fun x hx => by rw [hT] at hx; change none = some x at hx; cases hx)
                    · have kg := (hdep ⟨23, .guard⟩ (by simp) rfl).2 _ rfl _ rfl
                      rw [show f 23 = _ from hJ.vals 23 (hdep ⟨23, .guard⟩ (by simp) rfl).1 (undef) (by rw [hT]; rfl)] at kg
                      rw [if_neg (not_wanted_x rfl rfl rfl kg (by simp [undef]))]
                      exact hJ.plain (by decide) (by decide) (Ex.refl _) (fun x hx => by rw [hT] at hx; change none = some x at hx; cases hx)
                    · have kg := (hdep ⟨23, .guard⟩ (by simp) rfl).2 _ rfl _ rfl
                      rw [show f 23 = _ from hJ.vals 23 (hdep ⟨23, .guard⟩ (by simp) rfl).1 (undef) (by rw [hT]; rfl)] at kg
                      rw [if_neg (not_wanted_x rfl rfl rfl kg (by simp [undef]))]
                      exact hJ.plain (by decide) (by decide) (Ex.refl _) (fun x hx => by rw [hT] at hx; change none = some x at hx; cases hx)
                    · have kg := (hdep ⟨23, .guard⟩ (by simp) rfl).2 _ rfl _ rfl
                      rw [show f 23 = _ from hJ.vals 23 (hdep ⟨23, .guard⟩ (by simp) rfl).1 (undef) (by rw [hT]; rfl)] at kg
                      rw [if_neg (not_wanted_x rfl rfl rfl kg (by simp [undef]))]
                      exact hJ.plain (by decide) (by decide) (Ex.refl _) (fun x hx => by rw [hT] at hx; change none = some x at hx; cases hx)
                    · have kg := (hdep ⟨23, .guard⟩ (by simp) rfl).2 _ rfl _ rfl
                      rw [show f 23 = _ from hJ.vals 23 (hdep ⟨23, .guard⟩ (by simp) rfl).1 (undef) (by rw [hT]; rfl)] at kg
                      rw [if_neg (not_wanted_x rfl rfl rfl kg (by simp [undef]))]
                      exact hJ.plain (by decide) (by decide) (Ex.refl _) (fun x hx => by rw [hT] at hx; change none = some x at hx; cases hx)
                    · have kg := (hdep ⟨23, .guard⟩ (by simp) rfl).2 _ rfl _ rfl
                      rw [show f 23 = _ from hJ.vals 23 (hdep ⟨23, .guard⟩ (by simp) rfl).1 (undef) (by rw [hT]; rfl)] at kg
                      rw [if_neg (not_wanted_x rfl rfl rfl kg (by simp [undef]))]
                      exact hJ.plain (by decide) (by decide) (Ex.refl _) (fun x hx => by rw [hT] at hx; change none = some x at hx; cases hx)
                    · have kg := (hdep ⟨23, .guard⟩ (by simp) rfl).2 _ rfl _ rfl
                      rw [show f 23 = _ from hJ.vals 23 (hdep ⟨23, .guard⟩ (by simp) rfl).1 (undef) (by rw [hT]; rfl)] at kg
                      rw [if_neg (not_wanted_x rfl rfl rfl kg (by simp [undef]))]
                      exact hJ.plain (by decide) (by decide) (Ex.refl _) (fun x hx => by rw [hT] at hx; change none = some x at hx; cases hx)
                    · have kg := (hdep ⟨23, .guard⟩ (by simp) rfl).2 _ rfl _ rfl
                      rw [show f 23 = _ from hJ.vals 23 (hdep ⟨23, .guard⟩ (by simp) rfl).1 (undef) (by rw [hT]; rfl)] at kg
                      rw [if_neg (not_wanted_x rfl rfl rfl kg (by simp [undef]))]
                      exact hJ.plain (by decide) (by decide) (Ex.refl _) (fun x hx => by rw [hT] at hx; change none = some x at hx; cases hx)
                    · have kg := (hdep ⟨23, .guard⟩ (by simp) rfl).2 _ rfl _ rfl
                      rw [show f 23 = _ from hJ.vals 23 (hdep ⟨23, .guard⟩ (by simp) rfl).1 (undef) (by rw [hT]; rfl)] at kg
                      rw [if_neg (not_wanted_x rfl rfl rfl kg (by simp [undef]))]
                      exact hJ.plain (by decide) (by decide) (Ex.refl _) (fun x hx => by rw [hT] at hx; change none = some x at hx; cases hx)
                    · have kg := (hdep ⟨17, .guard⟩ (by simp) rfl).2 _ rfl _ rfl
                      rw [show f 17 = _ from hJ.vals 17 (hdep ⟨17, .guard⟩ (by simp) rfl).1 (.bool false) (by rw [hT]; rfl)] at kg
                      rw [if_neg (not_wanted rfl rfl rfl kg (by decide))]
                      exact hJ.plain (by decide) (by decide) (Ex.refl _) (fun x hx => by rw [hT] at hx; change none = some x at hx; cases hx)
                    · have kg := (hdep ⟨10, .guard⟩ (by simp) rfl).2 _ rfl _ rfl
                      rw [show f 10 = _ from hJ.vals 10 (hdep ⟨10, .guard⟩ (by simp) rfl).1 (.bool false) (by rw [hT]; rfl)] at kg
                      rw [if_pos (wanted_of rfl rfl rfl kg)]
                      intro K hK
                      have q112 := (hdep ⟨17, .data⟩ (by simp) rfl).2 _ rfl _ rfl
                      rw [show f 17 = _ from hJ.vals 17 (hdep ⟨17, .data⟩ (by simp) rfl).1 (.bool false) (by rw [hT]; rfl)] at q112
                      have q129 := (hdep ⟨34, .data⟩ (by simp) rfl).2 _ rfl _ rfl
                      rw [Array.getD_eq_getD_getElem?] at q112
                      rw [Array.getD_eq_getD_getElem?] at q129
                      clear hsz hdep hout hlat
                      go_simp
                      exact hK _ _ (hJ.plain (by decide) (by decide) (Ex.refl _) (fun x hx => by rw [hT] at hx; first | exact Option.some.inj hx | simpa using hx))
                    · rw [if_pos (by rfl)]
                      intro K hK
                      have q105 := (hdep ⟨10, .data⟩ (by simp) rfl).2 _ rfl _ rfl
                      rw [show f 10 = _ from hJ.vals 10 (hdep ⟨10, .data⟩ (by simp) rfl).1 (.bool false) (by rw [hT]; rfl)] at q105
                      have q130 := (hdep ⟨35, .data⟩ (by simp) rfl).2 _ rfl _ rfl
                      rw [show f 35 = _ from hJ.vals 35 (hdep ⟨35, .data⟩ (by simp) rfl).1 (.bool false) (by rw [hT]; rfl)] at q130
                      rw [Array.getD_eq_getD_getElem?] at q105
                      rw [Array.getD_eq_getD_getElem?] at q130
                      clear hsz hdep hout hlat
                      go_simp
                      exact hK _ _ (hJ.plain (by decide) (by decide) (Ex.refl _) (fun x hx => by rw [hT] at hx; first | exact Option.some.inj hx | simpa using hx))
                  · intro listed f w2 hall hJ
                    have f0 : f 0 = .int .i64 i := hJ.vals 0 (hall 0 (by simp)) _ (by rw [hT]; rfl)
                    have f1 : f 1 = .int .i64 k0 := hJ.vals 1 (hall 1 (by simp)) _ (by rw [hT]; rfl)
                    have f2 : f 2 = .bool true := hJ.vals 2 (hall 2 (by simp)) _ (by rw [hT]; rfl)
                    have f3 : f 3 = .bool true := hJ.vals 3 (hall 3 (by simp)) _ (by rw [hT]; rfl)
                    have f4 : f 4 = .slice xa xn xc := hJ.vals 4 (hall 4 (by simp)) _ (by rw [hT]; rfl)
                    have f5 : f 5 = .string st := hJ.vals 5 (hall 5 (by simp)) _ (by rw [hT]; rfl)
                    have f6 : f 6 = .slice ya yn yc := hJ.vals 6 (hall 6 (by simp)) _ (by rw [hT]; rfl)
                    have f7 : f 7 = .string st := hJ.vals 7 (hall 7 (by simp)) _ (by rw [hT]; rfl)
                    have f8 : f 8 = .bool false := hJ.vals 8 (hall 8 (by simp)) _ (by rw [hT]; rfl)
                    have f9 : f 9 = .bool false := hJ.vals 9 (hall 9 (by simp)) _ (by rw [hT]; rfl)
                    have f10 : f 10 = .bool false := hJ.vals 10 (hall 10 (by simp)) _ (by rw [hT]; rfl)
                    have f11 : f 11 = .int .i64 i := hJ.vals 11 (hall 11 (by simp)) _ (by rw [hT]; rfl)
                    have f12 : f 12 = .int .i64 k0 := hJ.vals 12 (hall 12 (by simp)) _ (by rw [hT]; rfl)
                    have f13 : f 13 = .bool false := hJ.vals 13 (hall 13 (by simp)) _ (by rw [hT]; rfl)
                    have f14 : f 14 = .bool false := hJ.vals 14 (hall 14 (by simp)) _ (by rw [hT]; rfl)
                    have f16 : f 16 = .bool false := hJ.vals 16 (hall 16 (by simp)) _ (by rw [hT]; rfl)
                    have f17 : f 17 = .bool false := hJ.vals 17 (hall 17 (by simp)) _ (by rw [hT]; rfl)
                    have f23 : f 23 = undef := hJ.vals 23 (hall 23 (by simp)) _ (by rw [hT]; rfl)
                    have f35 : f 35 = .bool false := hJ.vals 35 (hall 35 (by simp)) _ (by rw [hT]; rfl)
                    have f36 : f 36 = .bool false := hJ.vals 36 (hall 36 (by simp)) _ (by rw [hT]; rfl)
                    have xw := hJ.ext
                    simp only [putAll, Act.put, List.setIfInBounds_toArray, List.set_cons_zero, List.set_cons_succ, Nat.zero_add, Nat.reduceAdd]
                    rw [f0, f1, f2, f3, f4, f5, f6, f7, f8, f9, f10, f11, f12, f13, f14, f16, f17, f23, f35, f36]
                    clear f0 f1 f2 f3 f4 f5 f6 f7 f8 f9 f10 f11 f12 f13 f14 f16 f17 f23 f35 f36 hJ hall hT
                    generalize f 15 = y15
                    generalize f 18 = y18
                    generalize f 19 = y19
                    generalize f 20 = y20
                    generalize f 21 = y21
                    generalize f 22 = y22
                    generalize f 24 = y24
                    generalize f 25 = y25
                    generalize f 26 = y26
                    generalize f 27 = y27
                    generalize f 28 = y28
                    generalize f 29 = y29
                    generalize f 30 = y30
                    generalize f 31 = y31
                    generalize f 32 = y32
                    generalize f 33 = y33
                    generalize f 34 = y34
                    have K8 := Lib.hid (K7.out.ext xw)
                    have D8 := Lib.hid (DK.ext D7.out xw)
                    clear xw K7 D7
                    go_wp2_with fail
                    go_roundw
                    case rel => exact ⟨i + 1, by omega, by go_num, K8, D8⟩
                    case measure => simp [intOf]; omega
              · obtain rfl : i = 10 := by omega
                have TG := Lib.hid (turn_any7 g k0 HK10.out t0 (turnC cD k0 t0) wr K.out.dk (by
                  by_cases hy : t0 < (cD.now.getD k0 (false, [])).2.length
                  · rw [TW.out.2.1 hy, getD_set, if_pos ⟨rfl, by rw [ND.out]; exact HK10.out⟩]
                    show (flipA _ _).length ≤ _
                    unfold flipA; rw [List.length_set]; have := LN.out k0; omega
                  · rw [TW.out.2.2 hy]; have := LN.out k0; omega))
                rw [TT.out.1] at TG
                go_wp2_with fail
                refine TG.out.mono ?_
                rintro e w6 ⟨rfl, hk6, m6⟩
                have D6 := Lib.hid (DK.md D9.out K.out.dk m6 GN.out)
                have K6 := Lib.hid (K.out.md m6 hk6)
                have S1 := Lib.hid (show Calls Try.prog 22 #[.pointer (some ⟨g, 0, none⟩), .pointer (some ⟨g9, 0, none⟩)] w6 fun e w' => e = .returned (.bool true) ∧ Below w6.heap.size w6 w' by
                  have h := same7_any g g9 (turnC (turnC cD k0 t0) k0 t0) (copyC cD) w6 K6.out.dk D6.out
                  rw [show decide ((turnC (turnC cD k0 t0) k0 t0).now = (copyC cD).now) = true from decide_eq_true TT.out.2] at h; exact h)
                have BW6 := Lib.hid (show Ex w w6 from K6.out.bel)
                clear TG K D9 hk6 m6 D6 K6
                go_wp2_with fail
                refine S1.out.mono ?_
                rintro e w7 ⟨rfl, x7⟩
                have BW7 := Lib.hid (Ex.trans BW6.out x7)
                clear S1 x7
                go_wp2_with fail
                refine (KN.out w7).mono ?_
                rintro e w8 ⟨rfl, x8⟩
                have BWF := Ex.trans BW7.out x8
                clear x8
                go_wp2_with fail
                go_ret
                exact ⟨rfl, BWF⟩
end Go.Proofs.Ytgoiidpcdifojaa
