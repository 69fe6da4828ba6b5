/- disks: Put -/
import Derived.Test.YtgoiidpcdifojaaLc
namespace Go.Proofs.Ytgoiidpcdifojaa
open Go.RowKit
theorem ctL_set (l : List (Bool × Sm.Pt)) (i : Nat) (x : Bool × Sm.Pt) : ctL (l.set i x) = (ctL l).set i (x.1, x.2.l) := by unfold ctL; rw [List.map_set]
theorem dk_set_now (A B E : List Value) (hA : A.length = 20) (n : Nat) (hn : n < 10) (x y : Value) : (A ++ B ++ E).take (2 * n) ++ [x, y] ++ (A ++ B ++ E).drop (2 * n + [x, y].length) = (A.take (2 * n) ++ [x, y] ++ A.drop (2 * n + 2)) ++ B ++ E := by
  have e : A ++ B ++ E = A ++ (B ++ E) := List.append_assoc ..
  rw [e, List.take_append_of_le_length (by omega), show [x, y].length = 2 from rfl, List.drop_append_of_le_length (by omega)]
  simp only [List.append_assoc]
theorem wp_st69 {o : Oper} {a : Act} {w : World} {K : Act → World → Prop} {Q : Exit → Act → World → Prop} (x y : Operand) (g off : Nat) (b : Bool) (p : Sm.Pt) (ho : o.op = .store 69 x y) (ha : a.eval x = .pointer (some ⟨g, off, none⟩)) (hy : a.eval y = .agg #[.bool b, p.V]) (C : List Value) (hB : Bk w g 72 C.toArray) (hC : off + 2 ≤ C.length)
    (hk : ∀ w', Bk w' g 72 (C.take off ++ [.bool b, p.V] ++ C.drop (off + [Value.bool b, p.V].length)).toArray → Only g w w' → K (a.put o.dst undef) w') : o.wp Try.prog a w K Q := by
  refine wp_store_mid 69 x y ho g off #[.bool b, p.V] ha hy (Bk.there hB off 2 (by simpa using hC)) (by rw [Try.size69]; rfl) (by unfold Sm.Pt.V; simp [Value.oneCell']) (hk _ ?_ ?_)
  · exact seg_set [.bool b, p.V] off C hC w g 72 hB
  · exact Only.setCells g _ off w
def putC (c : Dc) (n : Nat) (b : List UInt8) : Dc := ⟨c.now.set n (true, b), c.las, c.pend + 1, n, b⟩
def MdPostB (g : Nat) (c : Dc) (x : Bool) (w : World) (e : Ending) (w' : World) : Prop := e = .returned (.bool x) ∧ DK w' g c ∧ Md g w w'
set_option maxHeartbeats 4000000 in
set_option maxRecDepth 100000 in
theorem put_no (g : Nat) (n : Int) (hn : (decide (0 ≤ n) && decide (n < 10)) = false) (v : Value) (w : World) : Calls Try.prog 14 #[.pointer (some ⟨g, 0, none⟩), .int .i64 n, v] w fun e w' => e = .returned (.bool false) ∧ w = w' := by
  have S := Lib.hid (isslot_any n w)
  rw [hn] at S
  clear hn
  go_enter Try.func14, Try.ntmps14
  go_wp2_with fail
  refine S.out.mono ?_
  rintro e w1 ⟨rfl, rfl⟩
  clear S
  go_wp2_with fail
  go_ret
  exact ⟨rfl, rfl⟩
set_option maxHeartbeats 4000000 in
set_option maxRecDepth 100000 in
theorem put_go (g : Nat) (n : Nat) (hn : n < 10) (b : Sm.Pt) (hb : b.l.length ≤ 8192) (c : Dc) (hp0 : 0 ≤ c.pend) (hp1 : c.pend < 1000000) (w : World) (h : DK w g c) (hbi : b.In w w.heap.size) :
    Calls Try.prog 14 #[.pointer (some ⟨g, 0, none⟩), .int .i64 n, b.V] w (MdPostB g (putC c n b.l) true w) := by
  obtain ⟨d, hd, hc⟩ := h
  have hpe : d.pend = c.pend := by rw [← hc]; rfl
  have S := Lib.hid (isslot_any (n : Int) w)
  rw [decide_eq_true (by omega : 0 ≤ (n : Int)), decide_eq_true (by omega : (n : Int) < 10)] at S
  have CL := Lib.hid (bclone_any b (by omega) w hbi)
  have HD := Lib.hid hd
  have HCT := Lib.hid hc
  obtain ⟨bl, hbl⟩ : ∃ x, x = b.l.length := ⟨_, rfl⟩
  obtain ⟨bv, hbv⟩ : ∃ x : Value, x = b.V := ⟨_, rfl⟩
  have hbs : bv = .slice b.ad bl b.cap := by rw [hbv, hbl]; rfl
  rw [← hbl] at hb
  rw [← hbv] at CL ⊢
  subst hbs
  rw [← hpe] at hp0 hp1
  have HP0 := Lib.hid hp0
  have HP1 := Lib.hid hp1
  have I0 := Lib.hid (show (0 : Int) ≤ (n : Int) by omega)
  have I1 := Lib.hid (show (n : Int) < 10 by omega)
  have I2 := Lib.hid hn
  have GLT0 := Lib.hid hd.blk.lt
  clear hd hc hpe hbl hbv hp0 hp1 hbi hn
  have hb' : (bl : Int) ≤ 8192 := by omega
  go_enter Try.func14, Try.ntmps14
  go_wp2_with fail
  refine S.out.mono ?_
  rintro e w1 ⟨rfl, rfl⟩
  clear S
  go_wp2_with fail
  refine CL.out.mono ?_
  rintro e w2 ⟨p, rfl, hpl, hpin, xr⟩
  have HX := Lib.hid xr
  have HPL := Lib.hid hpl
  have HPI := Lib.hid hpin
  have D2 := Lib.hid (HD.out.ext xr)
  have N20 := Lib.hid (slC20 HD.out.n10)
  have L20 := Lib.hid (slC20 HD.out.l10)
  have c41 : w2.cell? ⟨g, 41, none⟩ = some (.int .i64 d.lst) := (D2.out.blk.cell 41).trans (dk_at _ _ N20.out L20.out _ 1)
  have r41 : w2.frozen? ⟨g, 41, none⟩ = false := D2.out.blk.fr 41
  have c42 : w2.cell? ⟨g, 42, none⟩ = some d.put.V := (D2.out.blk.cell 42).trans (dk_at _ _ N20.out L20.out _ 2)
  have r42 : w2.frozen? ⟨g, 42, none⟩ = false := D2.out.blk.fr 42
  obtain ⟨pa, pn, pc, hpv⟩ : ∃ (pa : Option Addr) (pn pc : Nat), Value.slice pa pn pc = p.V := ⟨_, _, _, rfl⟩
  have HPV := Lib.hid hpv
  rw [← hpv]
  clear CL xr hpl hpin hpv
  go_wp2_with fail
  generalize hw5 : (w2.setCell ⟨g, 41, none⟩ (.int .i64 n)).setCell ⟨g, 42, none⟩ (.slice pa pn pc) = w5 at *
  have b3 := (D2.out.blk.put 41 (.int .i64 n)).put 42 (.slice pa pn pc)
  unfold Dk.C at b3
  rw [dk_s1 _ _ N20.out L20.out, dk_s2 _ _ N20.out L20.out, hw5] at b3
  have m1 : Md g w2 w5 := by rw [← hw5]; exact (md_set g 41 _ w2).trans (md_set g 42 _ _)
  have M5 := Lib.hid m1
  have B5 := Lib.hid b3
  have GLT := Lib.hid b3.lt
  have C42 := Lib.hid (show w5.cell? ⟨g, 42, none⟩ = some (.slice pa pn pc) from (b3.cell 42).trans (dk_at _ _ N20.out L20.out _ 2))
  clear hw5 b3 m1 c41 r41 c42 r42
  obtain ⟨T, hT⟩ : ∃ T : List Ar, T = [.is (.pointer (some ⟨g, 0, none⟩)), .is (.int .i64 n), .is (.pointer (some ⟨g, 0, none⟩)), .is (.pointer (some ⟨g, 0, none⟩)), .is (.pointer (some ⟨g, 42, none⟩)), .is (.slice pa pn pc), .is (.agg #[.bool true, .slice pa pn pc]), .is (.pointer (some ⟨g, 0, none⟩)), .is (.pointer (some ⟨g, 0, none⟩)), .is (.pointer (some ⟨g, 2 * n, none⟩))] := ⟨_, rfl⟩
  refine wp_region_flow 10 (arPhi T) (by kernel_rfl) rfl (by kernel_rfl) (by kernel_rfl) (by kernel_rfl) (arPhi_stable T) (fitB_spec (by kernel_rfl)) ?_ ?_
  · intro i o hi ho
    have hi' : i = 0 ∨ i = 1 ∨ i = 2 ∨ i = 3 ∨ i = 4 ∨ i = 5 ∨ i = 6 ∨ i = 7 ∨ i = 8 ∨ i = 9 := by omega
    clear hi
    rcases hi' with rfl | rfl | rfl | rfl | rfl | rfl | rfl | rfl | rfl | rfl
    all_goals (simp only [List.getElem?_toArray, List.getElem?_cons_zero, List.getElem?_cons_succ, Option.some.injEq] at ho; subst ho; intro a w2 hx hsz hdep hout)
    · rw [if_pos (by rfl)]
      intro K hK
      have q0 := hout 0 (outB_spec (by kernel_rfl))
      exact wp_mv _ rfl (hK _ _ (Ex.refl _) (by rw [hT]; exact q0))
    · rw [if_pos (by rfl)]
      intro K hK
      have q1 := hout 1 (outB_spec (by kernel_rfl))
      exact wp_mv _ rfl (hK _ _ (Ex.refl _) (by rw [hT]; exact q1))
    · rw [if_pos (by rfl)]
      intro K hK
      have q0 := hout 0 (outB_spec (by kernel_rfl))
      exact wp_mv _ rfl (hK _ _ (Ex.refl _) (by rw [hT]; exact q0))
    · rw [if_pos (by rfl)]
      intro K hK
      obtain ⟨v26, h26, k26⟩ := hdep ⟨2, .data⟩ (by simp) rfl _ rfl
      have q26 := k26 _ rfl
      clear k26
      rw [hT] at h26
      obtain rfl : v26 = .pointer (some ⟨g, 0, none⟩) := h26
      rw [Array.getD_eq_getD_getElem?] at q26
      clear hsz hdep hout
      go_simp
      exact hK _ _ (Ex.refl _) (by rw [hT]; rfl)
    · rw [if_pos (by rfl)]
      intro K hK
      obtain ⟨v27, h27, k27⟩ := hdep ⟨3, .data⟩ (by simp) rfl _ rfl
      have q27 := k27 _ rfl
      clear k27
      rw [hT] at h27
      obtain rfl : v27 = .pointer (some ⟨g, 0, none⟩) := h27
      rw [Array.getD_eq_getD_getElem?] at q27
      clear hsz hdep hout
      go_simp
      exact hK _ _ (Ex.refl _) (by rw [hT]; rfl)
    · rw [if_pos (by rfl)]
      intro K hK
      obtain ⟨v28, h28, k28⟩ := hdep ⟨4, .data⟩ (by simp) rfl _ rfl
      have q28 := k28 _ rfl
      clear k28
      rw [hT] at h28
      obtain rfl : v28 = .pointer (some ⟨g, 42, none⟩) := h28
      have f1 : w2.cell? ⟨g, 42, none⟩ = some (.slice pa pn pc) := (hx.cell (p := ⟨g, 42, none⟩) GLT.out).trans C42.out
      rw [Array.getD_eq_getD_getElem?] at q28
      clear hsz hdep hout
      go_simp
      exact hK _ _ (Ex.refl _) (by rw [hT]; rfl)
    · rw [if_pos (by rfl)]
      intro K hK
      obtain ⟨v29, h29, k29⟩ := hdep ⟨5, .data⟩ (by simp) rfl _ rfl
      have q29 := k29 _ rfl
      clear k29
      rw [hT] at h29
      obtain rfl : v29 = .slice pa pn pc := h29
      rw [Array.getD_eq_getD_getElem?] at q29
      clear hsz hdep hout
      go_simp
      exact hK _ _ (Ex.refl _) (by rw [hT]; rfl)
    · rw [if_pos (by rfl)]
      intro K hK
      obtain ⟨v24, h24, k24⟩ := hdep ⟨0, .data⟩ (by simp) rfl _ rfl
      have q24 := k24 _ rfl
      clear k24
      rw [hT] at h24
      obtain rfl : v24 = .pointer (some ⟨g, 0, none⟩) := h24
      rw [Array.getD_eq_getD_getElem?] at q24
      clear hsz hdep hout
      go_simp
      exact hK _ _ (Ex.refl _) (by rw [hT]; rfl)
    · rw [if_pos (by rfl)]
      intro K hK
      obtain ⟨v31, h31, k31⟩ := hdep ⟨7, .data⟩ (by simp) rfl _ rfl
      have q31 := k31 _ rfl
      clear k31
      rw [hT] at h31
      obtain rfl : v31 = .pointer (some ⟨g, 0, none⟩) := h31
      rw [Array.getD_eq_getD_getElem?] at q31
      clear hsz hdep hout
      go_simp
      exact hK _ _ (Ex.refl _) (by rw [hT]; rfl)
    · rw [if_pos (by rfl)]
      intro K hK
      obtain ⟨v32, h32, k32⟩ := hdep ⟨8, .data⟩ (by simp) rfl _ rfl
      have q32 := k32 _ rfl
      clear k32
      rw [hT] at h32
      obtain rfl : v32 = .pointer (some ⟨g, 0, none⟩) := h32
      obtain ⟨v25, h25, k25⟩ := hdep ⟨1, .data⟩ (by simp) rfl _ rfl
      have q25 := k25 _ rfl
      clear k25
      rw [hT] at h25
      obtain rfl : v25 = .int .i64 n := h25
      rw [Array.getD_eq_getD_getElem?] at q32
      rw [Array.getD_eq_getD_getElem?] at q25
      clear hsz hdep hout
      have i0 := I0.out
      have i1 := I1.out
      have i2 := I2.out
      go_simp
      refine hK _ _ (Ex.refl _) ?_
      rw [hT]
      show _ = _
      first | rfl | (congr 3; omega) | simp [Nat.mul_comm]
  · intro a w2 hx hdef hsz hdone hout
    obtain ⟨v30, h30, k30⟩ := hdone 6 _ (by omega) rfl
    have q30 := k30 _ rfl
    clear k30
    rw [hT] at h30
    obtain rfl : v30 = .agg #[.bool true, .slice pa pn pc] := h30
    obtain ⟨v33, h33, k33⟩ := hdone 9 _ (by omega) rfl
    have q33 := k33 _ rfl
    clear k33
    rw [hT] at h33
    obtain rfl : v33 = .pointer (some ⟨g, 2 * n, none⟩) := h33
    clear hdone hT
    have hA := arr_range a.tmps 41 hsz
    change a.tmps = #[a.tmps[0]?.getD undef, a.tmps[1]?.getD undef, a.tmps[2]?.getD undef, a.tmps[3]?.getD undef, a.tmps[4]?.getD undef, a.tmps[5]?.getD undef, a.tmps[6]?.getD undef, a.tmps[7]?.getD undef, a.tmps[8]?.getD undef, a.tmps[9]?.getD undef, a.tmps[10]?.getD undef, a.tmps[11]?.getD undef, a.tmps[12]?.getD undef, a.tmps[13]?.getD undef, a.tmps[14]?.getD undef, a.tmps[15]?.getD undef, a.tmps[16]?.getD undef, a.tmps[17]?.getD undef, a.tmps[18]?.getD undef, a.tmps[19]?.getD undef, a.tmps[20]?.getD undef, a.tmps[21]?.getD undef, a.tmps[22]?.getD undef, a.tmps[23]?.getD undef, a.tmps[24]?.getD undef, a.tmps[25]?.getD undef, a.tmps[26]?.getD undef, a.tmps[27]?.getD undef, a.tmps[28]?.getD undef, a.tmps[29]?.getD undef, a.tmps[30]?.getD undef, a.tmps[31]?.getD undef, a.tmps[32]?.getD undef, a.tmps[33]?.getD undef, a.tmps[34]?.getD undef, a.tmps[35]?.getD undef, a.tmps[36]?.getD undef, a.tmps[37]?.getD undef, a.tmps[38]?.getD undef, a.tmps[39]?.getD undef, a.tmps[40]?.getD undef] at hA
    have e0 := hout 0 (fun i o _ h => outB_spec (by kernel_rfl) i o h)
    have e1 := hout 1 (fun i o _ h => outB_spec (by kernel_rfl) i o h)
    have e2 := hout 2 (fun i o _ h => outB_spec (by kernel_rfl) i o h)
    have e3 := hout 3 (fun i o _ h => outB_spec (by kernel_rfl) i o h)
    have e4 := hout 4 (fun i o _ h => outB_spec (by kernel_rfl) i o h)
    have e5 := hout 5 (fun i o _ h => outB_spec (by kernel_rfl) i o h)
    have e6 := hout 6 (fun i o _ h => outB_spec (by kernel_rfl) i o h)
    have e7 := hout 7 (fun i o _ h => outB_spec (by kernel_rfl) i o h)
    have e8 := hout 8 (fun i o _ h => outB_spec (by kernel_rfl) i o h)
    have e9 := hout 9 (fun i o _ h => outB_spec (by kernel_rfl) i o h)
    have e10 := hout 10 (fun i o _ h => outB_spec (by kernel_rfl) i o h)
    have e11 := hout 11 (fun i o _ h => outB_spec (by kernel_rfl) i o h)
    have e12 := hout 12 (fun i o _ h => outB_spec (by kernel_rfl) i o h)
    have e13 := hout 13 (fun i o _ h => outB_spec (by kernel_rfl) i o h)
    have e14 := hout 14 (fun i o _ h => outB_spec (by kernel_rfl) i o h)
    have e15 := hout 15 (fun i o _ h => outB_spec (by kernel_rfl) i o h)
    have e16 := hout 16 (fun i o _ h => outB_spec (by kernel_rfl) i o h)
    have e17 := hout 17 (fun i o _ h => outB_spec (by kernel_rfl) i o h)
    have e18 := hout 18 (fun i o _ h => outB_spec (by kernel_rfl) i o h)
    have e19 := hout 19 (fun i o _ h => outB_spec (by kernel_rfl) i o h)
    have e20 := hout 20 (fun i o _ h => outB_spec (by kernel_rfl) i o h)
    have e21 := hout 21 (fun i o _ h => outB_spec (by kernel_rfl) i o h)
    have e22 := hout 22 (fun i o _ h => outB_spec (by kernel_rfl) i o h)
    have e23 := hout 23 (fun i o _ h => outB_spec (by kernel_rfl) i o h)
    have e34 := hout 34 (fun i o _ h => outB_spec (by kernel_rfl) i o h)
    have e35 := hout 35 (fun i o _ h => outB_spec (by kernel_rfl) i o h)
    have e36 := hout 36 (fun i o _ h => outB_spec (by kernel_rfl) i o h)
    have e37 := hout 37 (fun i o _ h => outB_spec (by kernel_rfl) i o h)
    have e38 := hout 38 (fun i o _ h => outB_spec (by kernel_rfl) i o h)
    have e39 := hout 39 (fun i o _ h => outB_spec (by kernel_rfl) i o h)
    have e40 := hout 40 (fun i o _ h => outB_spec (by kernel_rfl) i o h)
    simp only [Array.getD_eq_getD_getElem?, List.getElem?_toArray, List.getElem?_cons_zero, List.getElem?_cons_succ, Option.getD_some] at e0 e1 e2 e3 e4 e5 e6 e7 e8 e9 e10 e11 e12 e13 e14 e15 e16 e17 e18 e19 e20 e21 e22 e23 e34 e35 e36 e37 e38 e39 e40
    rw [e0, e1, e2, e3, e4, e5, e6, e7, e8, e9, e10, e11, e12, e13, e14, e15, e16, e17, e18, e19, e20, e21, e22, e23, e34, e35, e36, e37, e38, e39, e40] at hA
    clear e0 e1 e2 e3 e4 e5 e6 e7 e8 e9 e10 e11 e12 e13 e14 e15 e16 e17 e18 e19 e20 e21 e22 e23 e34 e35 e36 e37 e38 e39 e40 hout
    have hds2 : a.defers = [] := hdef
    have ea : a = ⟨a.tmps, a.defers⟩ := rfl
    rw [Array.getD_eq_getD_getElem?] at q30
    rw [Array.getD_eq_getD_getElem?] at q33
    rw [hA, hds2, q30, q33] at ea
    clear hA hds2 q30 q33 hdef
    generalize a.tmps[24]?.getD undef = y24 at ea
    generalize a.tmps[25]?.getD undef = y25 at ea
    generalize a.tmps[26]?.getD undef = y26 at ea
    generalize a.tmps[27]?.getD undef = y27 at ea
    generalize a.tmps[28]?.getD undef = y28 at ea
    generalize a.tmps[29]?.getD undef = y29 at ea
    generalize a.tmps[31]?.getD undef = y31 at ea
    generalize a.tmps[32]?.getD undef = y32 at ea
    clear hsz
    subst ea
    have bx : Ex w5 w2 := Ex.trans (show Ex w5 w5.drew from (Below.refl _ _).drew) hx
    unfold wpOp
    simp only [List.getElem?_toArray, List.getElem?_cons_zero, List.getElem?_cons_succ]
    rw [if_pos (by rfl)]
    left
    have BB := Lib.hid (Bk.ext B5.out bx)
    rw [HPV.out]
    refine wp_st69 _ _ g (2 * n) true p rfl rfl rfl (slC d.now ++ slC d.las ++ [.int .i64 d.pend, .int .i64 n, p.V]) (by have := BB.out; rw [HPV.out] at this; exact this) (by have := I2.out; simp [N20.out, L20.out]; omega) (fun w6 hd6 ho => ?_)
    rw [dk_set_now _ _ _ N20.out n I2.out] at hd6
    rw [← slC_set d.now n (true, p) (by rw [HD.out.n10]; exact I2.out)] at hd6
    have M6 := Lib.hid ((M5.out.trans (bx.md (Nat.le_of_lt GLT.out))).trans ho.md)
    have B6 := Lib.hid hd6
    have S20 := Lib.hid (slC20 (show (d.now.set n (true, p)).length = 10 by simp [HD.out.n10]))
    have c40 : w6.cell? ⟨g, 40, none⟩ = some (.int .i64 d.pend) := (hd6.cell 40).trans (dk_at _ _ S20.out L20.out _ 0)
    have r40 : w6.frozen? ⟨g, 40, none⟩ = false := hd6.fr 40
    have p0 := HP0.out
    have p1 := HP1.out
    clear hd6 ho BB M5 B5 GLT C42 bx hx hb hb'
    go_wp2_with fail
    go_ret
    have b7 := B6.out.put 40 (.int .i64 (d.pend + 1))
    rw [dk_s0 _ _ S20.out L20.out] at b7
    have mm := M6.out.trans (md_set g 40 (.int .i64 (d.pend + 1)) w6)
    have hd2 := D2.out
    refine ⟨rfl, ⟨⟨d.now.set n (true, p), d.las, d.pend + 1, n, p⟩, ⟨b7, by simp [hd2.n10], hd2.l10, fun i x hx => ?_, fun i x hx => pt_md (hd2.lin i x hx) hd2.blk mm, pt_md HPI.out hd2.blk mm⟩, ?_⟩, (Ex.md HX.out (Nat.le_of_lt GLT0.out)).trans mm⟩
    · rw [List.getElem?_set] at hx
      split at hx
      · split at hx
        · obtain rfl : (true, p) = x := Option.some.inj hx
          exact pt_md HPI.out hd2.blk mm
        · cases hx
      · exact pt_md (hd2.nin i x hx) hd2.blk mm
    · rw [← HCT.out]
      unfold Dk.ct putC
      simp only [ctL_set, HPL.out]
end Go.Proofs.Ytgoiidpcdifojaa
