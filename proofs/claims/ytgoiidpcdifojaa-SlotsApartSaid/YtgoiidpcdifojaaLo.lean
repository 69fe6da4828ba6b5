/- walks: the law SlotsApart -/
import Derived.Test.YtgoiidpcdifojaaLn
namespace Go.Proofs.Ytgoiidpcdifojaa
open Go.RowKit
structure Ak where
  k : Int
  n : Int
  t : Int
  p : Sm.Pt
structure Aw where
  ad : Option Addr
  cap : Nat
  l : List Ak
def Aw.V (q : Aw) : Value := .slice q.ad q.l.length q.cap
structure Aw.In (q : Aw) (w : World) : Prop where
  len : q.l.length ≤ 9223372036854775807
  read : 0 < q.l.length → ∃ a o, q.ad = some ⟨a, o, none⟩ ∧ a < w.heap.size ∧ ∀ (i : Nat) (x : Ak), q.l[i]? = some x → w.cell? ⟨a, o + i * 4, none⟩ = some (.int .i64 x.k) ∧ w.cell? ⟨a, o + i * 4 + 1, none⟩ = some (.int .i64 x.n) ∧ w.cell? ⟨a, o + i * 4 + 2, none⟩ = some (.int .i64 x.t) ∧ w.cell? ⟨a, o + i * 4 + 3, none⟩ = some x.p.V ∧ x.p.In w w.heap.size ∧ x.p.l.length ≤ 9223372036854775807 ∧ (Lit.int .i64 x.k).wf = true ∧ (Lit.int .i64 x.n).wf = true ∧ (Lit.int .i64 x.t).wf = true
theorem Aw.In.ext {q : Aw} {w w' : World} (h : q.In w) (k : Ex w w') : q.In w' := ⟨h.len, fun h0 => by
  obtain ⟨a, o, e, ha, hc⟩ := h.read h0
  refine ⟨a, o, e, Nat.lt_of_lt_of_le ha k.size, fun i x hx => ?_⟩
  obtain ⟨h0, h1, h2, h3, h4, h5⟩ := hc i x hx
  exact ⟨(k.cell (p := ⟨a, _, none⟩) ha).trans h0, (k.cell (p := ⟨a, _, none⟩) ha).trans h1, (k.cell (p := ⟨a, _, none⟩) ha).trans h2, (k.cell (p := ⟨a, _, none⟩) ha).trans h3, h4.ext k, h5⟩⟩
theorem Ok20.turn {c : Dc} (h : Ok20 c) (n : Nat) (a : Int) : Ok20 (turnC c n a) := by
  unfold turnC
  split
  · refine ⟨fun m => ?_, h.put⟩
    show ((c.now.set _ _).getD m _).2.length ≤ 20
    rw [getD_set]
    split
    · show (flipA _ _).length ≤ 20
      unfold flipA; rw [List.length_set]; exact h.now n
    · exact h.now m
  · exact h
theorem turn_any (g : Nat) (n : Nat) (hn : n < 10) (a : Int) (c : Dc) (w : World) (h : DK w g c) (hL : (c.now.getD n (false, [])).2.length ≤ 1000000) : Calls Try.prog 23 #[.pointer (some ⟨g, 0, none⟩), .int .i64 n, .int .i64 a] w (MdPostB g (turnC c n a) (turnB c n a) w) := by
  by_cases hy : 0 ≤ a ∧ a < ((c.now.getD n (false, [])).2.length : Nat)
  · have h1 : turnB c n a = true := decide_eq_true hy
    rw [h1]
    obtain ⟨k, rfl⟩ : ∃ k : Nat, a = k := ⟨a.toNat, by omega⟩
    exact turn_go g n hn k c w h hL (by omega)
  · have h1 : turnB c n a = false := decide_eq_false hy
    have h2 : turnC c n a = c := if_neg hy
    rw [h1, h2]
    exact (turn_no g n hn a c w h hy).mono fun e w' ⟨he, hw⟩ => by
      subst hw; exact ⟨he, h, Md.refl _ _⟩
/-- the disk that goes on -/
structure Kq (w0 : World) (g : Nat) (m : Int) (w : World) (c : Dc) : Prop where
  kp : Kp w0 g c w
  ok : Ok20 c
  p0 : 0 ≤ c.pend
  p1 : c.pend ≤ m
def ctW (l : List Ak) : List (Int × List UInt8) := l.map fun x => (x.n, x.p.l)
theorem ctW_take (l : List Ak) (k : Nat) (x : Ak) (h : l[k]? = some x) : (ctW l).take (k + 1) = (ctW l).take k ++ [(x.n, x.p.l)] := by
  rw [List.take_add_one]
  unfold ctW
  rw [List.getElem?_map, h]; rfl
theorem turn_pend (c : Dc) (n : Nat) (a : Int) : (turnC c n a).pend = c.pend := by unfold turnC; split <;> rfl
set_option maxHeartbeats 16000000 in
set_option maxRecDepth 100000 in
theorem slotsApart_walk (qa qb : Aw) (w : World) (ha : qa.In w) (hb : qb.In w) :
    Calls Try.prog 4 #[qa.V, qb.V] w fun e w' => e = .returned (.bool true) ∧ Below w.heap.size w w' := by
  have NW := Lib.hid (new7_any w)
  have KN := Lib.hid known7_any
  obtain ⟨ada, capa, la⟩ := qa
  obtain ⟨adb, capb, lb⟩ := qb
  have HA := Lib.hid ha
  have HB := Lib.hid hb
  unfold Aw.V
  simp only
  obtain ⟨na, hna⟩ : ∃ n, n = la.length := ⟨_, rfl⟩
  obtain ⟨nb, hnb⟩ : ∃ n, n = lb.length := ⟨_, rfl⟩
  have HNA := Lib.hid hna
  have HNB := Lib.hid hnb
  have hla : na ≤ 9223372036854775807 := by rw [hna]; exact ha.len
  have hlb : nb ≤ 9223372036854775807 := by rw [hnb]; exact hb.len
  rw [← hna, ← hnb]
  clear ha hb hna hnb
  obtain ⟨ka, hka⟩ : ∃ k, k = min na 20 := ⟨_, rfl⟩
  obtain ⟨kb, hkb⟩ : ∃ k, k = min nb 20 := ⟨_, rfl⟩
  have HKA := Lib.hid hka
  have HKB := Lib.hid hkb
  have hka1 : ka ≤ 20 := by omega
  have hka2 : ka ≤ na := by omega
  clear hka hkb
  go_enter Try.func4, Try.ntmps4
  go_wp2_with fail
  refine NW.out.mono ?_
  rintro e w1 ⟨g, rfl, hg, hd, xr⟩
  have K := Lib.hid (show Kp w g zeroC w1 from ⟨hd, xr, hg⟩)
  clear NW hg hd xr
  go_wp2_with fail
  go_loopw [6] (fun i wr => ∃ (k : Nat), k ≤ ka ∧ i = .int .i64 k ∧ Hid (Kp w g (foldP zeroC ((ctW la).take k)) wr)) (fun i _ => ka - (intOf i).toNat)
  case atStart => exact ⟨0, by omega, rfl, K⟩
  case round =>
    clear K
    obtain ⟨k, hk, rfl, K⟩ := hrel
    by_cases hlt : k < ka
    · obtain ⟨a9, o9, e, ha9, hc⟩ := (HA.out.ext K.out.bel).read (by show 0 < la.length; rw [← HNA.out]; omega)
      simp only at e
      subst e
      obtain ⟨⟨xk, xn, xt, p⟩, hxk⟩ : ∃ x, la[k]? = some x := ⟨_, List.getElem?_eq_getElem (by rw [← HNA.out]; omega)⟩
      obtain ⟨h0, h1, h2, h3, h4, h5, h6, h7, h8⟩ := hc k _ hxk
      have TK := Lib.hid (ctW_take la k _ hxk)
      have C1 := Lib.hid h1
      have PI := Lib.hid h4
      have HA9 := Lib.hid ha9
      have WI := Lib.hid (fun W => within_any xn 9 (by decide) (by decide) h7 W)
      obtain ⟨pa, pn, pc, hpv⟩ : ∃ (pa : Option Addr) (pn pc : Nat), pa = p.ad ∧ pn = p.l.length ∧ pc = p.cap := ⟨_, _, _, rfl, rfl, rfl⟩
      obtain ⟨mn, hmn⟩ : ∃ mn, mn = (p.l.take 20).length := ⟨_, rfl⟩
      have HPV := Lib.hid (show p.V = .slice pa pn pc by rw [hpv.1, hpv.2.1, hpv.2.2]; rfl)
      have HCV := Lib.hid (show (Sm.Pt.mk p.ad p.cap (p.l.take 20)).V = .slice pa mn pc by rw [hpv.1, hpv.2.2, hmn]; rfl)
      have CU := Lib.hid (fun W (hi : p.In W W.heap.size) => (show Calls Try.prog 16 #[.slice pa pn pc, .int .i64 20] W fun e w' => e = .returned (.slice pa mn pc) ∧ W = w' by
        have h := cut_any p 20 (by decide) (by decide) h5 W hi
        rw [HPV.out, HCV.out] at h; exact h))
      have C3 := Lib.hid (show wr.cell? ⟨a9, o9 + k * 4 + 3, none⟩ = some (.slice pa pn pc) by rw [← HPV.out]; exact h3)
      have PG := Lib.hid (fun W (hk : DK W g (foldP zeroC ((ctW la).take k))) (hi : p.In W W.heap.size) => (show Calls Try.prog 14 #[.pointer (some ⟨g, 0, none⟩), .int .i64 (witI xn 9), .slice pa mn pc] W (MdPostB g (foldP zeroC ((ctW la).take (k + 1))) true W) by
        have hp : (foldP zeroC ((ctW la).take k)).pend = (((ctW la).take k).length : Nat) := by rw [fold_pend]; show (0 : Int) + _ = _; omega
        have hl : ((ctW la).take k).length ≤ k := List.length_take_le _ _
        have h := put_go g (witI xn 9).toNat (wit9 xn).1 ⟨p.ad, p.cap, p.l.take 20⟩ (by show (p.l.take 20).length ≤ 8192; simp; omega) _ (by rw [hp]; omega) (by rw [hp]; omega) W hk (bcut_in hi 20)
        rw [(wit9 xn).2, HCV.out] at h
        rw [TK.out, foldP_snoc]
        exact h))
      have Z0 := Lib.hid (show (0 : Int) ≤ (k : Int) by omega)
      have Z1 := Lib.hid (show (k : Int) < (na : Int) by omega)
      have z1 := Z1.out
      have z2 : (k : Int) < 20 := by omega
      clear hc hxk h0 h1 h2 h3 h4 h5 h6 h7 h8 hpv hmn ha9
      go_wp2_with fail
      obtain ⟨T, hT⟩ : ∃ T : List Ar, T = [.is (.pointer (some ⟨g, 0, none⟩)), .is (.slice (some ⟨a9, o9, none⟩) na capa), .is (.int .i64 k), .is (.pointer (some ⟨a9, o9 + k * 4, none⟩)), .is (.pointer (some ⟨a9, o9 + k * 4 + 1, none⟩)), .is (.int .i64 xn), .is (.int .i64 (witI xn 9)), .is (.slice (some ⟨a9, o9, none⟩) na capa), .is (.int .i64 k), .is (.pointer (some ⟨a9, o9 + k * 4, none⟩)), .is (.pointer (some ⟨a9, o9 + k * 4 + 3, none⟩)), .is (.slice pa pn pc), .is (.slice pa mn pc)] := ⟨_, rfl⟩
      refine wp_region_flow 13 (arPhi T) (by kernel_rfl) rfl (by kernel_rfl) (by kernel_rfl) (by kernel_rfl) (arPhi_stable T) (fitB_spec (by kernel_rfl)) ?_ ?_
      · intro i o hi ho
        have hi' : i = 0 ∨ i = 1 ∨ i = 2 ∨ i = 3 ∨ i = 4 ∨ i = 5 ∨ i = 6 ∨ i = 7 ∨ i = 8 ∨ i = 9 ∨ i = 10 ∨ i = 11 ∨ i = 12 := by omega
        clear hi
        rcases hi' with rfl | rfl | rfl | rfl | rfl | rfl | rfl | rfl | rfl | rfl | rfl | rfl | rfl
        all_goals (simp only [List.getElem?_toArray, List.getElem?_cons_zero, List.getElem?_cons_succ, Option.some.injEq] at ho; subst ho; intro a w2 hx hsz hdep hout)
        · rw [if_pos (by rfl)]
          intro K hK
          have q5 := hout 5 (outB_spec (by kernel_rfl))
          exact wp_mv _ rfl (hK _ _ (Ex.refl _) (by rw [hT]; exact q5))
        · rw [if_pos (by rfl)]
          intro K hK
          have q0 := hout 0 (outB_spec (by kernel_rfl))
          exact wp_mv _ rfl (hK _ _ (Ex.refl _) (by rw [hT]; exact q0))
        · rw [if_pos (by rfl)]
          intro K hK
          have q6 := hout 6 (outB_spec (by kernel_rfl))
          exact wp_mv _ rfl (hK _ _ (Ex.refl _) (by rw [hT]; exact q6))
        · rw [if_pos (by rfl)]
          intro K hK
          obtain ⟨v25, h25, k25⟩ := hdep ⟨1, .data⟩ (by simp) rfl _ rfl
          have q25 := k25 _ rfl
          clear k25
          rw [hT] at h25
          obtain rfl : v25 = .slice (some ⟨a9, o9, none⟩) na capa := h25
          obtain ⟨v26, h26, k26⟩ := hdep ⟨2, .data⟩ (by simp) rfl _ rfl
          have q26 := k26 _ rfl
          clear k26
          rw [hT] at h26
          obtain rfl : v26 = .int .i64 k := h26
          rw [Array.getD_eq_getD_getElem?] at q25
          rw [Array.getD_eq_getD_getElem?] at q26
          clear hsz hdep hout
          have z0 := Z0.out
          have z1 := Z1.out
          go_simp
          exact hK _ _ (Ex.refl _) (by rw [hT]; rfl)
        · rw [if_pos (by rfl)]
          intro K hK
          obtain ⟨v27, h27, k27⟩ := hdep ⟨3, .data⟩ (by simp) rfl _ rfl
          have q27 := k27 _ rfl
          clear k27
          rw [hT] at h27
          obtain rfl : v27 = .pointer (some ⟨a9, o9 + k * 4, none⟩) := h27
          rw [Array.getD_eq_getD_getElem?] at q27
          clear hsz hdep hout
          have z0 := Z0.out
          have z1 := Z1.out
          go_simp
          exact hK _ _ (Ex.refl _) (by rw [hT]; rfl)
        · rw [if_pos (by rfl)]
          intro K hK
          obtain ⟨v28, h28, k28⟩ := hdep ⟨4, .data⟩ (by simp) rfl _ rfl
          have q28 := k28 _ rfl
          clear k28
          rw [hT] at h28
          obtain rfl : v28 = .pointer (some ⟨a9, o9 + k * 4 + 1, none⟩) := h28
          have f1 : w2.cell? ⟨a9, o9 + k * 4 + 1, none⟩ = some (.int .i64 xn) := ((Ex.trans (show Ex wr wr.drew from (Below.refl _ _).drew) hx).cell (p := ⟨a9, o9 + k * 4 + 1, none⟩) HA9.out).trans C1.out
          rw [Array.getD_eq_getD_getElem?] at q28
          clear hsz hdep hout
          go_simp
          exact hK _ _ (Ex.refl _) (by rw [hT]; rfl)
        · rw [if_pos (by rfl)]
          intro K hK
          obtain ⟨v29, h29, k29⟩ := hdep ⟨5, .data⟩ (by simp) rfl _ rfl
          have q29 := k29 _ rfl
          clear k29
          rw [hT] at h29
          obtain rfl : v29 = .int .i64 xn := h29
          rw [Array.getD_eq_getD_getElem?] at q29
          have cm := Lib.hid (WI.out w2)
          clear hsz hdep hout
          go_simp
          refine cm.out.mono ?_
          rintro e w3 ⟨rfl, rfl⟩
          exact hK _ _ (Ex.refl _) (by rw [hT]; rfl)
        · rw [if_pos (by rfl)]
          intro K hK
          have q0 := hout 0 (outB_spec (by kernel_rfl))
          exact wp_mv _ rfl (hK _ _ (Ex.refl _) (by rw [hT]; exact q0))
        · rw [if_pos (by rfl)]
          intro K hK
          have q6 := hout 6 (outB_spec (by kernel_rfl))
          exact wp_mv _ rfl (hK _ _ (Ex.refl _) (by rw [hT]; exact q6))
        · rw [if_pos (by rfl)]
          intro K hK
          obtain ⟨v31, h31, k31⟩ := hdep ⟨7, .data⟩ (by simp) rfl _ rfl
          have q31 := k31 _ rfl
          clear k31
          rw [hT] at h31
          obtain rfl : v31 = .slice (some ⟨a9, o9, none⟩) na capa := h31
          obtain ⟨v32, h32, k32⟩ := hdep ⟨8, .data⟩ (by simp) rfl _ rfl
          have q32 := k32 _ rfl
          clear k32
          rw [hT] at h32
          obtain rfl : v32 = .int .i64 k := h32
          rw [Array.getD_eq_getD_getElem?] at q31
          rw [Array.getD_eq_getD_getElem?] at q32
          clear hsz hdep hout
          have z0 := Z0.out
          have z1 := Z1.out
          go_simp
          exact hK _ _ (Ex.refl _) (by rw [hT]; rfl)
        · rw [if_pos (by rfl)]
          intro K hK
          obtain ⟨v33, h33, k33⟩ := hdep ⟨9, .data⟩ (by simp) rfl _ rfl
          have q33 := k33 _ rfl
          clear k33
          rw [hT] at h33
          obtain rfl : v33 = .pointer (some ⟨a9, o9 + k * 4, none⟩) := h33
          rw [Array.getD_eq_getD_getElem?] at q33
          clear hsz hdep hout
          have z0 := Z0.out
          have z1 := Z1.out
          go_simp
          exact hK _ _ (Ex.refl _) (by rw [hT]; rfl)
        · rw [if_pos (by rfl)]
          intro K hK
          obtain ⟨v34, h34, k34⟩ := hdep ⟨10, .data⟩ (by simp) rfl _ rfl
          have q34 := k34 _ rfl
          clear k34
          rw [hT] at h34
          obtain rfl : v34 = .pointer (some ⟨a9, o9 + k * 4 + 3, none⟩) := h34
          have f1 : w2.cell? ⟨a9, o9 + k * 4 + 3, none⟩ = some (.slice pa pn pc) := ((Ex.trans (show Ex wr wr.drew from (Below.refl _ _).drew) hx).cell (p := ⟨a9, o9 + k * 4 + 3, none⟩) HA9.out).trans C3.out
          rw [Array.getD_eq_getD_getElem?] at q34
          clear hsz hdep hout
          go_simp
          exact hK _ _ (Ex.refl _) (by rw [hT]; rfl)
        · rw [if_pos (by rfl)]
          intro K hK
          obtain ⟨v35, h35, k35⟩ := hdep ⟨11, .data⟩ (by simp) rfl _ rfl
          have q35 := k35 _ rfl
          clear k35
          rw [hT] at h35
          obtain rfl : v35 = .slice pa pn pc := h35
          rw [Array.getD_eq_getD_getElem?] at q35
          have cm := Lib.hid (CU.out w2 (Sm.Pt.In.ext PI.out (Ex.trans (show Ex wr wr.drew from (Below.refl _ _).drew) hx)))
          clear hsz hdep hout
          go_simp
          refine cm.out.mono ?_
          rintro e w3 ⟨rfl, rfl⟩
          exact hK _ _ (Ex.refl _) (by rw [hT]; rfl)
      · intro a w2 hx hdef hsz hdone hout
        obtain ⟨v24, h24, k24⟩ := hdone 0 _ (by omega) rfl
        have q24 := k24 _ rfl
        clear k24
        rw [hT] at h24
        obtain rfl : v24 = .pointer (some ⟨g, 0, none⟩) := h24
        obtain ⟨v30, h30, k30⟩ := hdone 6 _ (by omega) rfl
        have q30 := k30 _ rfl
        clear k30
        rw [hT] at h30
        obtain rfl : v30 = .int .i64 (witI xn 9) := h30
        obtain ⟨v36, h36, k36⟩ := hdone 12 _ (by omega) rfl
        have q36 := k36 _ rfl
        clear k36
        rw [hT] at h36
        obtain rfl : v36 = .slice pa mn pc := h36
        clear hdone hT
        have hA := arr_range a.tmps 111 hsz
        change a.tmps = #[a.tmps[0]?.getD undef, a.tmps[1]?.getD undef, a.tmps[2]?.getD undef, a.tmps[3]?.getD undef, a.tmps[4]?.getD undef, a.tmps[5]?.getD undef, a.tmps[6]?.getD undef, a.tmps[7]?.getD undef, a.tmps[8]?.getD undef, a.tmps[9]?.getD undef, a.tmps[10]?.getD undef, a.tmps[11]?.getD undef, a.tmps[12]?.getD undef, a.tmps[13]?.getD undef, a.tmps[14]?.getD undef, a.tmps[15]?.getD undef, a.tmps[16]?.getD undef, a.tmps[17]?.getD undef, a.tmps[18]?.getD undef, a.tmps[19]?.getD undef, a.tmps[20]?.getD undef, a.tmps[21]?.getD undef, a.tmps[22]?.getD undef, a.tmps[23]?.getD undef, a.tmps[24]?.getD undef, a.tmps[25]?.getD undef, a.tmps[26]?.getD undef, a.tmps[27]?.getD undef, a.tmps[28]?.getD undef, a.tmps[29]?.getD undef, a.tmps[30]?.getD undef, a.tmps[31]?.getD undef, a.tmps[32]?.getD undef, a.tmps[33]?.getD undef, a.tmps[34]?.getD undef, a.tmps[35]?.getD undef, a.tmps[36]?.getD undef, a.tmps[37]?.getD undef, a.tmps[38]?.getD undef, a.tmps[39]?.getD undef, a.tmps[40]?.getD undef, a.tmps[41]?.getD undef, a.tmps[42]?.getD undef, a.tmps[43]?.getD undef, a.tmps[44]?.getD undef, a.tmps[45]?.getD undef, a.tmps[46]?.getD undef, a.tmps[47]?.getD undef, a.tmps[48]?.getD undef, a.tmps[49]?.getD undef, a.tmps[50]?.getD undef, a.tmps[51]?.getD undef, a.tmps[52]?.getD undef, a.tmps[53]?.getD undef, a.tmps[54]?.getD undef, a.tmps[55]?.getD undef, a.tmps[56]?.getD undef, a.tmps[57]?.getD undef, a.tmps[58]?.getD undef, a.tmps[59]?.getD undef, a.tmps[60]?.getD undef, a.tmps[61]?.getD undef, a.tmps[62]?.getD undef, a.tmps[63]?.getD undef, a.tmps[64]?.getD undef, a.tmps[65]?.getD undef, a.tmps[66]?.getD undef, a.tmps[67]?.getD undef, a.tmps[68]?.getD undef, a.tmps[69]?.getD undef, a.tmps[70]?.getD undef, a.tmps[71]?.getD undef, a.tmps[72]?.getD undef, a.tmps[73]?.getD undef, a.tmps[74]?.getD undef, a.tmps[75]?.getD undef, a.tmps[76]?.getD undef, a.tmps[77]?.getD undef, a.tmps[78]?.getD undef, a.tmps[79]?.getD undef, a.tmps[80]?.getD undef, a.tmps[81]?.getD undef, a.tmps[82]?.getD undef, a.tmps[83]?.getD undef, a.tmps[84]?.getD undef, a.tmps[85]?.getD undef, a.tmps[86]?.getD undef, a.tmps[87]?.getD undef, a.tmps[88]?.getD undef, a.tmps[89]?.getD undef, a.tmps[90]?.getD undef, a.tmps[91]?.getD undef, a.tmps[92]?.getD undef, a.tmps[93]?.getD undef, a.tmps[94]?.getD undef, a.tmps[95]?.getD undef, a.tmps[96]?.getD undef, a.tmps[97]?.getD undef, a.tmps[98]?.getD undef, a.tmps[99]?.getD undef, a.tmps[100]?.getD undef, a.tmps[101]?.getD undef, a.tmps[102]?.getD undef, a.tmps[103]?.getD undef, a.tmps[104]?.getD undef, a.tmps[105]?.getD undef, a.tmps[106]?.getD undef, a.tmps[107]?.getD undef, a.tmps[108]?.getD undef, a.tmps[109]?.getD undef, a.tmps[110]?.getD undef] at hA
        have e0 := hout 0 (fun i o _ h => outB_spec (by kernel_rfl) i o h)
        have e1 := hout 1 (fun i o _ h => outB_spec (by kernel_rfl) i o h)
        have e2 := hout 2 (fun i o _ h => outB_spec (by kernel_rfl) i o h)
        have e3 := hout 3 (fun i o _ h => outB_spec (by kernel_rfl) i o h)
        have e4 := hout 4 (fun i o _ h => outB_spec (by kernel_rfl) i o h)
        have e5 := hout 5 (fun i o _ h => outB_spec (by kernel_rfl) i o h)
        have e6 := hout 6 (fun i o _ h => outB_spec (by kernel_rfl) i o h)
        have e7 := hout 7 (fun i o _ h => outB_spec (by kernel_rfl) i o h)
        have e8 := hout 8 (fun i o _ h => outB_spec (by kernel_rfl) i o h)
        have e9 := hout 9 (fun i o _ h => outB_spec (by kernel_rfl) i o h)
        have e10 := hout 10 (fun i o _ h => outB_spec (by kernel_rfl) i o h)
        have e11 := hout 11 (fun i o _ h => outB_spec (by kernel_rfl) i o h)
        have e12 := hout 12 (fun i o _ h => outB_spec (by kernel_rfl) i o h)
        have e13 := hout 13 (fun i o _ h => outB_spec (by kernel_rfl) i o h)
        have e14 := hout 14 (fun i o _ h => outB_spec (by kernel_rfl) i o h)
        have e15 := hout 15 (fun i o _ h => outB_spec (by kernel_rfl) i o h)
        have e16 := hout 16 (fun i o _ h => outB_spec (by kernel_rfl) i o h)
        have e17 := hout 17 (fun i o _ h => outB_spec (by kernel_rfl) i o h)
        have e18 := hout 18 (fun i o _ h => outB_spec (by kernel_rfl) i o h)
        have e19 := hout 19 (fun i o _ h => outB_spec (by kernel_rfl) i o h)
        have e20 := hout 20 (fun i o _ h => outB_spec (by kernel_rfl) i o h)
        have e21 := hout 21 (fun i o _ h => outB_spec (by kernel_rfl) i o h)
        have e22 := hout 22 (fun i o _ h => outB_spec (by kernel_rfl) i o h)
        have e23 := hout 23 (fun i o _ h => outB_spec (by kernel_rfl) i o h)
        have e38 := hout 38 (fun i o _ h => outB_spec (by kernel_rfl) i o h)
        have e39 := hout 39 (fun i o _ h => outB_spec (by kernel_rfl) i o h)
        have e40 := hout 40 (fun i o _ h => outB_spec (by kernel_rfl) i o h)
        have e41 := hout 41 (fun i o _ h => outB_spec (by kernel_rfl) i o h)
        have e42 := hout 42 (fun i o _ h => outB_spec (by kernel_rfl) i o h)
        have e43 := hout 43 (fun i o _ h => outB_spec (by kernel_rfl) i o h)
        have e44 := hout 44 (fun i o _ h => outB_spec (by kernel_rfl) i o h)
        have e45 := hout 45 (fun i o _ h => outB_spec (by kernel_rfl) i o h)
        have e46 := hout 46 (fun i o _ h => outB_spec (by kernel_rfl) i o h)
        have e47 := hout 47 (fun i o _ h => outB_spec (by kernel_rfl) i o h)
        have e48 := hout 48 (fun i o _ h => outB_spec (by kernel_rfl) i o h)
        have e49 := hout 49 (fun i o _ h => outB_spec (by kernel_rfl) i o h)
        have e50 := hout 50 (fun i o _ h => outB_spec (by kernel_rfl) i o h)
        have e51 := hout 51 (fun i o _ h => outB_spec (by kernel_rfl) i o h)
        have e52 := hout 52 (fun i o _ h => outB_spec (by kernel_rfl) i o h)
        have e53 := hout 53 (fun i o _ h => outB_spec (by kernel_rfl) i o h)
        have e54 := hout 54 (fun i o _ h => outB_spec (by kernel_rfl) i o h)
        have e55 := hout 55 (fun i o _ h => outB_spec (by kernel_rfl) i o h)
        have e56 := hout 56 (fun i o _ h => outB_spec (by kernel_rfl) i o h)
        have e57 := hout 57 (fun i o _ h => outB_spec (by kernel_rfl) i o h)
        have e58 := hout 58 (fun i o _ h => outB_spec (by kernel_rfl) i o h)
        have e59 := hout 59 (fun i o _ h => outB_spec (by kernel_rfl) i o h)
        have e60 := hout 60 (fun i o _ h => outB_spec (by kernel_rfl) i o h)
        have e61 := hout 61 (fun i o _ h => outB_spec (by kernel_rfl) i o h)
        have e62 := hout 62 (fun i o _ h => outB_spec (by kernel_rfl) i o h)
        have e63 := hout 63 (fun i o _ h => outB_spec (by kernel_rfl) i o h)
        have e64 := hout 64 (fun i o _ h => outB_spec (by kernel_rfl) i o h)
        have e65 := hout 65 (fun i o _ h => outB_spec (by kernel_rfl) i o h)
        have e66 := hout 66 (fun i o _ h => outB_spec (by kernel_rfl) i o h)
        have e67 := hout 67 (fun i o _ h => outB_spec (by kernel_rfl) i o h)
        have e68 := hout 68 (fun i o _ h => outB_spec (by kernel_rfl) i o h)
        have e69 := hout 69 (fun i o _ h => outB_spec (by kernel_rfl) i o h)
        have e70 := hout 70 (fun i o _ h => outB_spec (by kernel_rfl) i o h)
        have e71 := hout 71 (fun i o _ h => outB_spec (by kernel_rfl) i o h)
        have e72 := hout 72 (fun i o _ h => outB_spec (by kernel_rfl) i o h)
        have e73 := hout 73 (fun i o _ h => outB_spec (by kernel_rfl) i o h)
        have e74 := hout 74 (fun i o _ h => outB_spec (by kernel_rfl) i o h)
        have e75 := hout 75 (fun i o _ h => outB_spec (by kernel_rfl) i o h)
        have e76 := hout 76 (fun i o _ h => outB_spec (by kernel_rfl) i o h)
        have e77 := hout 77 (fun i o _ h => outB_spec (by kernel_rfl) i o h)
        have e78 := hout 78 (fun i o _ h => outB_spec (by kernel_rfl) i o h)
        have e79 := hout 79 (fun i o _ h => outB_spec (by kernel_rfl) i o h)
        have e80 := hout 80 (fun i o _ h => outB_spec (by kernel_rfl) i o h)
        have e81 := hout 81 (fun i o _ h => outB_spec (by kernel_rfl) i o h)
        have e82 := hout 82 (fun i o _ h => outB_spec (by kernel_rfl) i o h)
        have e83 := hout 83 (fun i o _ h => outB_spec (by kernel_rfl) i o h)
        have e84 := hout 84 (fun i o _ h => outB_spec (by kernel_rfl) i o h)
        have e85 := hout 85 (fun i o _ h => outB_spec (by kernel_rfl) i o h)
        have e86 := hout 86 (fun i o _ h => outB_spec (by kernel_rfl) i o h)
        have e87 := hout 87 (fun i o _ h => outB_spec (by kernel_rfl) i o h)
        have e88 := hout 88 (fun i o _ h => outB_spec (by kernel_rfl) i o h)
        have e89 := hout 89 (fun i o _ h => outB_spec (by kernel_rfl) i o h)
        have e90 := hout 90 (fun i o _ h => outB_spec (by kernel_rfl) i o h)
        have e91 := hout 91 (fun i o _ h => outB_spec (by kernel_rfl) i o h)
        have e92 := hout 92 (fun i o _ h => outB_spec (by kernel_rfl) i o h)
        have e93 := hout 93 (fun i o _ h => outB_spec (by kernel_rfl) i o h)
        have e94 := hout 94 (fun i o _ h => outB_spec (by kernel_rfl) i o h)
        have e95 := hout 95 (fun i o _ h => outB_spec (by kernel_rfl) i o h)
        have e96 := hout 96 (fun i o _ h => outB_spec (by kernel_rfl) i o h)
        have e97 := hout 97 (fun i o _ h => outB_spec (by kernel_rfl) i o h)
        have e98 := hout 98 (fun i o _ h => outB_spec (by kernel_rfl) i o h)
        have e99 := hout 99 (fun i o _ h => outB_spec (by kernel_rfl) i o h)
        have e100 := hout 100 (fun i o _ h => outB_spec (by kernel_rfl) i o h)
        have e101 := hout 101 (fun i o _ h => outB_spec (by kernel_rfl) i o h)
        have e102 := hout 102 (fun i o _ h => outB_spec (by kernel_rfl) i o h)
        have e103 := hout 103 (fun i o _ h => outB_spec (by kernel_rfl) i o h)
        have e104 := hout 104 (fun i o _ h => outB_spec (by kernel_rfl) i o h)
        have e105 := hout 105 (fun i o _ h => outB_spec (by kernel_rfl) i o h)
        have e106 := hout 106 (fun i o _ h => outB_spec (by kernel_rfl) i o h)
        have e107 := hout 107 (fun i o _ h => outB_spec (by kernel_rfl) i o h)
        have e108 := hout 108 (fun i o _ h => outB_spec (by kernel_rfl) i o h)
        have e109 := hout 109 (fun i o _ h => outB_spec (by kernel_rfl) i o h)
        have e110 := hout 110 (fun i o _ h => outB_spec (by kernel_rfl) i o h)
        simp only [Array.getD_eq_getD_getElem?, List.getElem?_toArray, List.getElem?_cons_zero, List.getElem?_cons_succ, Option.getD_some] at e0 e1 e2 e3 e4 e5 e6 e7 e8 e9 e10 e11 e12 e13 e14 e15 e16 e17 e18 e19 e20 e21 e22 e23 e38 e39 e40 e41 e42 e43 e44 e45 e46 e47 e48 e49 e50 e51 e52 e53 e54 e55 e56 e57 e58 e59 e60 e61 e62 e63 e64 e65 e66 e67 e68 e69 e70 e71 e72 e73 e74 e75 e76 e77 e78 e79 e80 e81 e82 e83 e84 e85 e86 e87 e88 e89 e90 e91 e92 e93 e94 e95 e96 e97 e98 e99 e100 e101 e102 e103 e104 e105 e106 e107 e108 e109 e110
        rw [e0, e1, e2, e3, e4, e5, e6, e7, e8, e9, e10, e11, e12, e13, e14, e15, e16, e17, e18, e19, e20, e21, e22, e23, e38, e39, e40, e41, e42, e43, e44, e45, e46, e47, e48, e49, e50, e51, e52, e53, e54, e55, e56, e57, e58, e59, e60, e61, e62, e63, e64, e65, e66, e67, e68, e69, e70, e71, e72, e73, e74, e75, e76, e77, e78, e79, e80, e81, e82, e83, e84, e85, e86, e87, e88, e89, e90, e91, e92, e93, e94, e95, e96, e97, e98, e99, e100, e101, e102, e103, e104, e105, e106, e107, e108, e109, e110] at hA
        clear e0 e1 e2 e3 e4 e5 e6 e7 e8 e9 e10 e11 e12 e13 e14 e15 e16 e17 e18 e19 e20 e21 e22 e23 e38 e39 e40 e41 e42 e43 e44 e45 e46 e47 e48 e49 e50 e51 e52 e53 e54 e55 e56 e57 e58 e59 e60 e61 e62 e63 e64 e65 e66 e67 e68 e69 e70 e71 e72 e73 e74 e75 e76 e77 e78 e79 e80 e81 e82 e83 e84 e85 e86 e87 e88 e89 e90 e91 e92 e93 e94 e95 e96 e97 e98 e99 e100 e101 e102 e103 e104 e105 e106 e107 e108 e109 e110 hout
        have hds2 : a.defers = [] := hdef
        have ea : a = ⟨a.tmps, a.defers⟩ := rfl
        rw [Array.getD_eq_getD_getElem?] at q24
        rw [Array.getD_eq_getD_getElem?] at q30
        rw [Array.getD_eq_getD_getElem?] at q36
        rw [hA, hds2, q24, q30, q36] at ea
        clear hA hds2 q24 q30 q36 hdef
        generalize a.tmps[25]?.getD undef = y25 at ea
        generalize a.tmps[26]?.getD undef = y26 at ea
        generalize a.tmps[27]?.getD undef = y27 at ea
        generalize a.tmps[28]?.getD undef = y28 at ea
        generalize a.tmps[29]?.getD undef = y29 at ea
        generalize a.tmps[31]?.getD undef = y31 at ea
        generalize a.tmps[32]?.getD undef = y32 at ea
        generalize a.tmps[33]?.getD undef = y33 at ea
        generalize a.tmps[34]?.getD undef = y34 at ea
        generalize a.tmps[35]?.getD undef = y35 at ea
        generalize a.tmps[37]?.getD undef = y37 at ea
        clear hsz
        subst ea
        have bx : Ex wr w2 := Ex.trans (show Ex wr wr.drew from (Below.refl _ _).drew) hx
        unfold wpOp
        simp only [List.getElem?_toArray, List.getElem?_cons_zero, List.getElem?_cons_succ]
        rw [if_pos (by rfl)]
        left
        have DK2 := Lib.hid (K.out.ext bx)
        have PI2 := Lib.hid (Sm.Pt.In.ext PI.out bx)
        have PG2 := Lib.hid (PG.out w2 DK2.out.dk PI2.out)
        clear bx hx PG CU WI C1 C3 PI HA9
        go_simp
        refine PG2.out.mono ?_
        rintro e w3 ⟨rfl, hk3, m3⟩
        have K3 := Lib.hid (DK2.out.md m3 hk3)
        clear PG2 DK2 PI2 hk3 m3 K
        go_wp2_with fail
        go_roundw
        case rel => exact ⟨k + 1, by omega, by go_num, K3⟩
        case measure => simp [intOf]; omega
    · obtain rfl : k = ka := by omega
      obtain ⟨cA, hcA⟩ : ∃ c, c = foldP zeroC ((ctW la).take k) := ⟨_, rfl⟩
      have OKA := Lib.hid (show Ok20 cA by rw [hcA]; exact Ok20.zero.fold _)
      have PEA := Lib.hid (show 0 ≤ cA.pend ∧ cA.pend ≤ 20 by
        rw [hcA, fold_pend]
        have hl : ((ctW la).take k).length ≤ k := List.length_take_le _ _
        show 0 ≤ (0 : Int) + _ ∧ (0 : Int) + _ ≤ 20
        omega)
      rw [← hcA] at K
      clear hcA
      have hkk := HKA.out
      rcases (show na = k ∨ ((k : Int) < (na : Int) ∧ k = 20) by omega) with rfl | ⟨hd, rfl⟩
      all_goals
        clear hkk
        go_wp2_with fail
        have CP := Lib.hid (copy_any g cA wr K.out.dk)
        refine CP.out.mono ?_
        rintro e w2 ⟨g7, rfl, hg7, hd7, x2⟩
        have K2 := Lib.hid (K.out.ext x2)
        have D7 := Lib.hid hd7
        have GW := Lib.hid (show g < wr.heap.size by obtain ⟨d, hd, _⟩ := K.out.dk; exact hd.blk.lt)
        have HG7 := Lib.hid (show g7 ≠ g by have := GW.out; omega)
        have B7 := Lib.hid (show w.heap.size ≤ g7 by have := K.out.hg; have := GW.out; omega)
        clear CP K hg7 hd7
        have CP := Lib.hid (copy_any g cA w2 K2.out.dk)
        go_wp2_with fail
        refine CP.out.mono ?_
        rintro e w3 ⟨g8, rfl, hg8, hd8, x3⟩
        have K3 := Lib.hid (K2.out.ext x3)
        have D8 := Lib.hid hd8
        have HG87 := Lib.hid (show g8 ≠ g7 by
          have : g7 < w2.heap.size := by obtain ⟨d, hd, _⟩ := D7.out; exact hd.blk.lt
          omega)
        have HG8 := Lib.hid (show g8 ≠ g by have h1 := GW.out; have h2 := x2.size; omega)
        replace D7 := Lib.hid (DK.ext D7.out x3)
        have S1 := Lib.hid (show Calls Try.prog 22 #[.pointer (some ⟨g7, 0, none⟩), .pointer (some ⟨g, 0, none⟩)] w3 fun e w' => e = .returned (.bool true) ∧ Below w3.heap.size w3 w' by
          have h := same7_any g7 g (copyC cA) cA w3 D7.out K3.out.dk
          rw [show decide ((copyC cA).now = cA.now) = true from decide_eq_true rfl] at h; exact h)
        clear CP K2 hg8 hd8 x2 x3 GW
        go_wp2_with fail
        refine S1.out.mono ?_
        rintro e w4 ⟨rfl, x4⟩
        replace D7 := Lib.hid (DK.ext D7.out x4)
        replace D8 := Lib.hid (DK.ext D8.out x4)
        have K4 := Lib.hid (K3.out.ext x4)
        have CR := Lib.hid (show Calls Try.prog 19 #[.pointer (some ⟨g7, 0, none⟩), .int .i64 0] w4 (MdPost g7 (crashC (copyC cA) 0) w4) from crash_any g7 0 (by decide) (copyC cA) w4 D7.out 0 (by decide) rfl (by show ([] : List UInt8).length ≤ _; decide))
        clear S1 K3 x4
        go_wp2_with fail
        refine CR.out.mono ?_
        rintro e w5 ⟨rfl, hk5, m5⟩
        have D8b := Lib.hid (DK.md D8.out D7.out m5 HG87.out)
        have K5 := Lib.hid (show Kp w g cA w5 from ⟨DK.md K4.out.dk D7.out m5 (Ne.symm HG7.out), m5.below _ B7.out _ K4.out.bel, K4.out.hg⟩)
        have D7b := Lib.hid hk5
        have EQ7 := Lib.hid (show (crashC (copyC cA) 0).now = (copyC cA).now by
          show crashN (copyC cA) 0 = _
          unfold crashN; rw [if_neg (by omega)]; rfl)
        have S1 := Lib.hid (show Calls Try.prog 22 #[.pointer (some ⟨g7, 0, none⟩), .pointer (some ⟨g8, 0, none⟩)] w5 fun e w' => e = .returned (.bool true) ∧ Below w5.heap.size w5 w' by
          have h := same7_any g7 g8 (crashC (copyC cA) 0) (copyC cA) w5 D7b.out D8b.out
          rw [show decide ((crashC (copyC cA) 0).now = (copyC cA).now) = true from decide_eq_true EQ7.out] at h; exact h)
        clear CR D7 D8 K4 hk5 m5
        go_wp2_with fail
        refine S1.out.mono ?_
        rintro e w6 ⟨rfl, x6⟩
        have D7 := Lib.hid (DK.ext D7b.out x6)
        have D8 := Lib.hid (DK.ext D8b.out x6)
        have K6 := Lib.hid (show ∃ c, Kq w g 20 w6 c from ⟨cA, K5.out.ext x6, OKA.out, PEA.out.1, PEA.out.2⟩)
        have hkb := HKB.out
        have hkb1 : kb ≤ 20 := by omega
        have hkb2 : kb ≤ nb := by omega
        clear hkb S1 D7b D8b K5 x6 OKA PEA
        go_wp2_with fail
        go_loopw [9] (fun iv wr => ∃ (k : Nat), k ≤ kb ∧ iv = .int .i64 k ∧ Hid (∃ c, Kq w g (20 + k) wr c) ∧ Hid (DK wr g7 (crashC (copyC cA) 0)) ∧ Hid (DK wr g8 (copyC cA))) (fun iv _ => kb - (intOf iv).toNat)
        case atStart => exact ⟨0, by omega, rfl, K6, D7, D8⟩
        case round =>
          clear K6 D7 D8
          obtain ⟨k, hk, rfl, KQ, D7, D8⟩ := hrel
          obtain ⟨c, hkq⟩ := KQ.out
          have KK := Lib.hid hkq
          clear KQ hkq
          by_cases hlt : k < kb
          · obtain ⟨b9, r9, e, ha9, hc⟩ := (HB.out.ext KK.out.kp.bel).read (by show 0 < lb.length; rw [← HNB.out]; omega)
            simp only at e
            subst e
            obtain ⟨⟨xk, xn, xt, p⟩, hxk⟩ : ∃ x, lb[k]? = some x := ⟨_, List.getElem?_eq_getElem (by rw [← HNB.out]; omega)⟩
            obtain ⟨h0, h1, h2, h3, h4, h5, h6, h7, h8⟩ := hc k _ hxk
            have PI := Lib.hid h4
            have WI := Lib.hid (fun W => within_any xn 9 (by decide) (by decide) h7 W)
            simp only at h0 h1 h2 h3
            obtain ⟨pa, pn, pc, hpv⟩ : ∃ (pa : Option Addr) (pn pc : Nat), pa = p.ad ∧ pn = p.l.length ∧ pc = p.cap := ⟨_, _, _, rfl, rfl, rfl⟩
            obtain ⟨mn, hmn⟩ : ∃ mn, mn = (p.l.take 20).length := ⟨_, rfl⟩
            have HPV := Lib.hid (show p.V = .slice pa pn pc by rw [hpv.1, hpv.2.1, hpv.2.2]; rfl)
            have HCV := Lib.hid (show (Sm.Pt.mk p.ad p.cap (p.l.take 20)).V = .slice pa mn pc by rw [hpv.1, hpv.2.2, hmn]; rfl)
            have CU := Lib.hid (fun W (hi : p.In W W.heap.size) => (show Calls Try.prog 16 #[.slice pa pn pc, .int .i64 20] W fun e w' => e = .returned (.slice pa mn pc) ∧ W = w' by
              have h := cut_any p 20 (by decide) (by decide) h5 W hi
              rw [HPV.out, HCV.out] at h; exact h))
            rw [HPV.out] at h3
            have z0 : (0 : Int) ≤ (k : Int) := by omega
            have z1 : (k : Int) < (nb : Int) := by omega
            have z2 : (k : Int) < 20 := by omega
            have PG := Lib.hid (show Calls Try.prog 14 #[.pointer (some ⟨g, 0, none⟩), .int .i64 (witI xn 9), .slice pa mn pc] wr (MdPostB g (putX c (xn, p.l)) true wr) by
              have h := put_go g (witI xn 9).toNat (wit9 xn).1 ⟨p.ad, p.cap, p.l.take 20⟩ (by show (p.l.take 20).length ≤ 8192; simp; omega) c KK.out.p0 (by have := KK.out.p1; omega) wr KK.out.kp.dk (bcut_in h4 20)
              rw [(wit9 xn).2, HCV.out] at h
              exact h)
            have TG := Lib.hid (show Calls Try.prog 23 #[.pointer (some ⟨g, 0, none⟩), .int .i64 (witI xn 9), .int .i64 xt] wr (MdPostB g (turnC c (witI xn 9).toNat xt) (turnB c (witI xn 9).toNat xt) wr) by
              have h := turn_any g (witI xn 9).toNat (wit9 xn).1 xt c wr KK.out.kp.dk (by have := KK.out.ok.now (witI xn 9).toNat; omega)
              rw [(wit9 xn).2] at h
              exact h)
            have WI2 := Lib.hid (WI.out wr)
            have CU2 := Lib.hid (CU.out wr PI.out)
            have tm1 : -2 < xk.tmod 2 := by have := Int.lt_tmod_of_pos xk (show (0 : Int) < 2 by decide); omega
            have tm2 : xk.tmod 2 < 2 := Int.tmod_lt_of_pos xk (by decide)
            generalize turnB c (witI xn 9).toNat xt = tb at TG
            clear hc hxk h4 h5 h6 h7 h8 hpv hmn ha9 WI CU
            by_cases hev : xk.tmod 2 = 0
            · have hev' : (xk.tmod 2 == 0) = true := by simpa using hev
              clear TG hev
              go_wp2_with fail
              refine WI2.out.mono ?_
              rintro e w7 ⟨rfl, rfl⟩
              clear WI2
              go_wp2_with fail
              refine CU2.out.mono ?_
              rintro e w7 ⟨rfl, rfl⟩
              clear CU2
              go_wp2_with fail
              refine PG.out.mono ?_
              rintro e w7 ⟨rfl, hk7, m7⟩
              have K7 := Lib.hid (show ∃ c, Kq w g (20 + (k + 1 : Nat)) w7 c from ⟨_, KK.out.kp.md m7 hk7, KK.out.ok.putX _, by show 0 ≤ c.pend + 1; have := KK.out.p0; omega, by show c.pend + 1 ≤ _; have := KK.out.p1; omega⟩)
              have E7 := Lib.hid (DK.md D7.out KK.out.kp.dk m7 HG7.out)
              have E8 := Lib.hid (DK.md D8.out KK.out.kp.dk m7 HG8.out)
              clear PG hk7 m7 D7 D8 KK h0 h1 h2 h3 tm1 tm2 hev'
              go_wp2_with fail
              go_roundw
              case rel => exact ⟨k + 1, by omega, by go_num, K7, E7, E8⟩
              case measure => simp [intOf]; omega
            · have hev' : (xk.tmod 2 == 0) = false := by simpa using hev
              clear PG hev
              go_wp2_with fail
              refine WI2.out.mono ?_
              rintro e w7 ⟨rfl, rfl⟩
              clear WI2
              go_wp2_with fail
              refine TG.out.mono ?_
              rintro e w7 ⟨rfl, hk7, m7⟩
              have K7 := Lib.hid (show ∃ c, Kq w g (20 + (k + 1 : Nat)) w7 c from ⟨_, KK.out.kp.md m7 hk7, KK.out.ok.turn _ _, by have := KK.out.p0; rw [turn_pend]; omega, by have := KK.out.p1; rw [turn_pend]; omega⟩)
              have E7 := Lib.hid (DK.md D7.out KK.out.kp.dk m7 HG7.out)
              have E8 := Lib.hid (DK.md D8.out KK.out.kp.dk m7 HG8.out)
              clear TG CU2 hk7 m7 D7 D8 KK h0 h1 h2 h3 tm1 tm2 hev'
              go_wp2_with fail
              go_roundw
              case rel => exact ⟨k + 1, by omega, by go_num, K7, E7, E8⟩
              case measure => simp [intOf]; omega
          · obtain rfl : k = kb := by omega
            have hkk := HKB.out
            have S1 := Lib.hid (show Calls Try.prog 22 #[.pointer (some ⟨g7, 0, none⟩), .pointer (some ⟨g8, 0, none⟩)] wr fun e w' => e = .returned (.bool true) ∧ Below wr.heap.size wr w' by
              have h := same7_any g7 g8 (crashC (copyC cA) 0) (copyC cA) wr D7.out D8.out
              rw [show decide ((crashC (copyC cA) 0).now = (copyC cA).now) = true from decide_eq_true EQ7.out] at h; exact h)
            have S2 := Lib.hid (fun W (x : Ex wr W) => (show Calls Try.prog 22 #[.pointer (some ⟨g, 0, none⟩), .pointer (some ⟨g, 0, none⟩)] W fun e w' => e = .returned (.bool true) ∧ Below W.heap.size W w' by
              have h := same7_any g g c c W (KK.out.kp.dk.ext x) (KK.out.kp.dk.ext x)
              rw [show decide (c.now = c.now) = true from decide_eq_true rfl] at h; exact h))
            have BW := Lib.hid (show Ex w wr from KK.out.kp.bel)
            clear D7 D8 KK
            rcases (show nb = k ∨ ((k : Int) < (nb : Int) ∧ k = 20) by omega) with rfl | ⟨hd2, rfl⟩
            all_goals
              clear hkk
              go_wp2_with fail
              refine S1.out.mono ?_
              rintro e w7 ⟨rfl, x7⟩
              have S3 := Lib.hid (S2.out w7 x7)
              have BW7 := Lib.hid (Ex.trans BW.out x7)
              clear S1 S2 x7
              go_wp2_with fail
              refine S3.out.mono ?_
              rintro e w8 ⟨rfl, x8⟩
              have BW8 := Lib.hid (Ex.trans BW7.out x8)
              clear S3 x8
              go_wp2_with fail
              refine (KN.out w8).mono ?_
              rintro e w9 ⟨rfl, x9⟩
              have BWF := Ex.trans BW8.out x9
              clear x9
              go_wp2_with fail
              go_ret
              exact ⟨rfl, BWF⟩
end Go.Proofs.Ytgoiidpcdifojaa
