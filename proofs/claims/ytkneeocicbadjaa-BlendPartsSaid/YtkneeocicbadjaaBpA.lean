/- walks: BlendParts -/
import Derived.Test.YtkneeocicbadjaaFlE
import Derived.Test.YtkneeocicbadjaaBlK
import Derived.Test.YtkneeocicbadjaaKnA
namespace Go.Proofs.Ytkneeocicbadjaa
open Go.RowKit
/-- the rest of a row, as the machine makes it -/
theorem pt_dropV (p : Pt) (n : Nat) (w : World) {B : Nat} (hp : p.In w B) (hn : n ≤ p.l.length) : (Pt.mk (if p.cap = n then p.ad else p.ad.map (fun x => x.add n)) (p.cap - n) (p.l.drop n)).In w B := by
  have hl : (p.l.drop n).length = p.l.length - n := by rw [List.length_drop]
  have hc := hp.cap
  refine ⟨by simp only [hl]; omega, ?_, fun h0 => ?_⟩
  · simp only
    intro h
    by_cases e : p.cap = n
    · omega
    · rw [if_neg e] at h
      have h2 : p.ad = none := by cases hq : p.ad with
        | none => rfl
        | some a => rw [hq] at h; cases h
      have := hp.nil h2
      omega
  · simp only [hl] at h0 ⊢
    obtain ⟨a, o, e, ha, hcc⟩ := hp.read (by omega)
    refine ⟨a, o + n, ?_, ha, fun i hi => ?_⟩
    · rw [if_neg (by omega), e]
      simp [Addr.add_lit]
    · rw [Nat.add_assoc, hcc (n + i) (by omega)]
      simp [List.getD, List.getElem?_drop]
set_option maxHeartbeats 8000000 in
set_option maxRecDepth 100000 in
theorem bparts_any (kl ll : List UInt8) (hkll : kl.length = 16) (hlll : ll.length = 16) (b0 : Pt) (c : Int) (hc : -9223372036854775808 ≤ c ∧ c ≤ 9223372036854775807) (w : World) (hb0 : b0.In w w.heap.size) (hmb : b0.l.length ≤ 9223372036854775807) :
    Calls Try.prog 6 #[digV kl, digV ll, b0.V, .int .i64 c] w fun e w' => e = .returned (.bool true) ∧ Below w.heap.size w w' := by
  obtain ⟨cs, hcs⟩ : ∃ cs, cs = (Lib.byteCells kl).toArray := ⟨_, rfl⟩
  obtain ⟨ds, hds⟩ : ∃ ds, ds = (Lib.byteCells ll).toArray := ⟨_, rfl⟩
  have hv : digV kl = .agg cs := by rw [hcs]; rfl
  have hv2 : digV ll = .agg ds := by rw [hds]; rfl
  have x1 : Ex (w.alloc (.cells cs 24)) ((w.alloc (.cells cs 24)).alloc (.cells ds 24)) := (Below.refl _ _).alloc (Nat.le_refl _) _
  have HA : Hid (DB ((w.alloc (.cells cs 24)).alloc (.cells ds 24)) w.heap.size kl) := by rw [hcs]; exact Lib.hid ((DB.new rfl hkll).ext (by rw [← hcs]; exact x1))
  have HB : Hid (DB ((w.alloc (.cells cs 24)).alloc (.cells ds 24)) (w.heap.size + 1) ll) := by rw [hds]; exact Lib.hid (DB.new (by simp) hlll)
  have bw : Below w.heap.size w ((w.alloc (.cells cs 24)).alloc (.cells ds 24)) := ((Below.refl _ _).alloc (Nat.le_refl _) _).alloc (by simp) _
  have bz : w.heap.size + 2 ≤ ((w.alloc (.cells cs 24)).alloc (.cells ds 24)).heap.size := by simp
  obtain ⟨L, hL⟩ : ∃ A, A = b0.l.take 100 := ⟨_, rfl⟩
  have hLl : L.length ≤ 100 := by rw [hL, List.length_take]; omega
  obtain ⟨ln, hln⟩ : ∃ x, x = L.length := ⟨_, rfl⟩
  have HLn := Lib.hid hln.symm
  have hlb : ln ≤ 100 := by omega
  have C3 := Lib.hid (cut_any b0 100 (by omega) _ (hb0.ext bw) hmb)
  rw [← hL] at C3
  obtain ⟨bv, hbv⟩ : ∃ v, v = b0.V := ⟨_, rfl⟩
  rw [← hbv] at C3
  have HK := Lib.hid hkll
  have HL := Lib.hid hlll
  rw [hv, hv2, ← hbv]
  clear hv hv2 hcs hds hL hLl hln hbv hb0 hmb x1 hkll hlll
  go_enter Try.func6, Try.ntmps6
  go_wp2_with fail
  obtain ⟨wr, hw1⟩ : ∃ w1, w1 = (w.alloc (.cells cs 24)).alloc (.cells ds 24) := ⟨_, rfl⟩
  rw [← hw1] at HA HB bw bz C3 ⊢
  clear hw1
  refine C3.out.mono ?_
  rintro e w3 ⟨⟨pb, rfl, hbl, hbi⟩, rfl⟩
  have hpv : pb.V = .slice pb.ad ln pb.cap := by unfold Pt.V; rw [hbl, HLn.out]
  rw [hpv]
  have HPB := Lib.hid hpv
  have BL := Lib.hid hbl
  have BI := Lib.hid hbi
  clear hbl hbi hpv C3
  go_wp2_with fail
  have W1 := Lib.hid (within_any c 0 (ln : Int) hc (by omega) (by omega) (by omega) w3)
  refine W1.out.mono ?_
  rintro e wr ⟨⟨m, rfl, hm0, hm1⟩, rfl⟩
  have hml : m ≤ ln := by omega
  have HTm := Lib.hid (show (L.take m).length = m by rw [List.length_take, HLn.out]; omega)
  have HDm := Lib.hid (show (L.drop m).length = ln - m by rw [List.length_drop, HLn.out])
  clear W1 hm0 hm1 hc
  go_wp2_with fail
  rw [← HPB.out]
  have hbl := BL.out
  have hbi := BI.out
  obtain ⟨T, hT⟩ : ∃ T : List As4, T = [.emp wr.heap.size, .pt L, .is (.int .i64 (m : Int)), .pt (L.take m), .own wr.heap.size (L.take m), .pt L, .is (.int .i64 (m : Int)), .pt (L.drop m)] := ⟨_, rfl⟩
  refine wp_region_flow2 8 (tabPhi4 T) (by kernel_rfl) rfl (by kernel_rfl) (by kernel_rfl) (by kernel_rfl) (by kernel_rfl) (tabPhi4_stable T) (fitB_spec (by kernel_rfl)) ?_ ?_
  · intro i o hi ho
    have hi' : i = 0 ∨ i = 1 ∨ i = 2 ∨ i = 3 ∨ i = 4 ∨ i = 5 ∨ i = 6 ∨ i = 7 := by omega
    rcases hi' with rfl | rfl | rfl | rfl | rfl | rfl | rfl | rfl
    all_goals (simp only [List.getElem?_toArray, List.getElem?_cons_zero, List.getElem?_cons_succ, Option.some.injEq] at ho; subst ho; intro a w2 hx hsz hdep hout)
    · rw [if_pos (by rfl)]
      intro K hK
      clear hsz hdep hout
      go_simp
      have hex : Ex w2 (w2.alloc (.cells #[] 5)) := (Below.refl _ _).alloc (Nat.le_refl _) _
      exact hK _ _ hex (by rw [hT]; exact ⟨w2.heap.size, rfl, hx.size, Bk.new rfl _ _⟩)
    · rw [if_pos (by rfl)]
      intro K hK
      have f := hout 2 (outB_spec (by kernel_rfl))
      exact wp_mv _ rfl (hK _ _ (Ex.refl _) (by rw [hT]; exact ⟨pb, f, hbl, hbi.ext (Ex.trans (show Ex wr wr.drew from (Below.refl _ _).drew) hx)⟩))
    · rw [if_pos (by rfl)]
      intro K hK
      have f := hout 9 (outB_spec (by kernel_rfl))
      exact wp_mv _ rfl (hK _ _ (Ex.refl _) (by rw [hT]; exact f))
    · rw [if_pos (by rfl)]
      intro K hK
      obtain ⟨v, hv, kv⟩ := hdep ⟨1, .data⟩ (by simp) rfl _ rfl
      have qv := kv _ rfl
      rw [hT] at hv
      obtain ⟨pv, rfl, lv, iv⟩ := hv
      obtain ⟨u, hu, ku⟩ := hdep ⟨2, .data⟩ (by simp) rfl _ rfl
      have qu := ku _ rfl
      rw [hT] at hu
      obtain rfl : u = .int .i64 (m : Int) := hu
      have q1 : a.tmps[18]?.getD undef = .slice pv.ad ln pv.cap := by rw [← Array.getD_eq_getD_getElem?, qv]; unfold Pt.V; rw [lv, HLn.out]
      have q2 : a.tmps[19]?.getD undef = .int .i64 (m : Int) := by rw [← Array.getD_eq_getD_getElem?]; exact qu
      have hc1 : m ≤ pv.cap := by have := iv.cap; rw [lv, HLn.out] at this; omega
      have PT := Lib.hid (pt_takeW pv m w2 iv (by rw [lv, HLn.out]; exact hml))
      rw [lv] at PT
      clear hsz hdep hout qv kv qu ku lv
      go_simp
      exact hK _ _ (Ex.refl _) (by rw [hT]; exact ⟨_, (by unfold Pt.V; rw [HTm.out]), rfl, PT.out⟩)
    · rw [if_pos (by rfl)]
      intro K hK
      obtain ⟨v, hv, kv⟩ := hdep ⟨0, .data⟩ (by simp) rfl _ rfl
      have qv := kv _ rfl
      rw [hT] at hv
      obtain ⟨gv, rfl, bv, dv⟩ := hv
      obtain ⟨u, hu, ku⟩ := hdep ⟨3, .data⟩ (by simp) rfl _ rfl
      have qu := ku _ rfl
      rw [hT] at hu
      obtain ⟨pu, rfl, lu, iu⟩ := hu
      refine wp_app_emp (.tmp 17) (.tmp 20) rfl wr.heap.size gv pu ?_ ?_ bv dv hx.size iu (by rw [lu, HTm.out]; omega) ?_
      · simpa [Act.eval, Array.getD_eq_getD_getElem?] using qv
      · simpa [Act.eval, Array.getD_eq_getD_getElem?] using qu
      · intro v' w3 ow hex
        rw [lu] at ow
        exact hK _ _ hex (by rw [hT]; exact ow)
    · rw [if_pos (by rfl)]
      intro K hK
      have f := hout 2 (outB_spec (by kernel_rfl))
      exact wp_mv _ rfl (hK _ _ (Ex.refl _) (by rw [hT]; exact ⟨pb, f, hbl, hbi.ext (Ex.trans (show Ex wr wr.drew from (Below.refl _ _).drew) hx)⟩))
    · rw [if_pos (by rfl)]
      intro K hK
      have f := hout 9 (outB_spec (by kernel_rfl))
      exact wp_mv _ rfl (hK _ _ (Ex.refl _) (by rw [hT]; exact f))
    · rw [if_pos (by rfl)]
      intro K hK
      obtain ⟨v, hv, kv⟩ := hdep ⟨5, .data⟩ (by simp) rfl _ rfl
      have qv := kv _ rfl
      rw [hT] at hv
      obtain ⟨pv, rfl, lv, iv⟩ := hv
      obtain ⟨u, hu, ku⟩ := hdep ⟨6, .data⟩ (by simp) rfl _ rfl
      have qu := ku _ rfl
      rw [hT] at hu
      obtain rfl : u = .int .i64 (m : Int) := hu
      have q2 : a.tmps[23]?.getD undef = .int .i64 (m : Int) := by rw [← Array.getD_eq_getD_getElem?]; exact qu
      have hcap := iv.cap
      rw [lv, HLn.out] at hcap
      have q1 : a.tmps[22]?.getD undef = .slice pv.ad ln pv.cap := by rw [← Array.getD_eq_getD_getElem?, qv]; unfold Pt.V; rw [lv, HLn.out]
      have PD := Lib.hid (pt_dropV pv m w2 iv (by rw [lv, HLn.out]; exact hml))
      rw [lv] at PD
      clear hsz hdep hout qv kv qu ku lv iv
      go_simp
      exact hK _ _ (Ex.refl _) (by rw [hT]; exact ⟨_, (by unfold Pt.V; simp only [HDm.out]), rfl, PD.out⟩)
  · intro a w2 hx hdef hsz hdone hout
    obtain ⟨v, hv, kv⟩ := hdone 4 _ (by omega) rfl
    have qv := kv _ rfl
    rw [hT] at hv
    have hv : ownU w2 wr.heap.size v (L.take m) := hv
    obtain ⟨u, hu, ku⟩ := hdone 7 _ (by omega) rfl
    have qu := ku _ rfl
    rw [hT] at hu
    obtain ⟨pu, rfl, lu, iu⟩ := hu
    clear hdone kv ku hT
    have hA := arr_range a.tmps 63 hsz
    change a.tmps = #[a.tmps[0]?.getD undef, a.tmps[1]?.getD undef, a.tmps[2]?.getD undef, a.tmps[3]?.getD undef, a.tmps[4]?.getD undef, a.tmps[5]?.getD undef, a.tmps[6]?.getD undef, a.tmps[7]?.getD undef, a.tmps[8]?.getD undef, a.tmps[9]?.getD undef, a.tmps[10]?.getD undef, a.tmps[11]?.getD undef, a.tmps[12]?.getD undef, a.tmps[13]?.getD undef, a.tmps[14]?.getD undef, a.tmps[15]?.getD undef, a.tmps[16]?.getD undef, a.tmps[17]?.getD undef, a.tmps[18]?.getD undef, a.tmps[19]?.getD undef, a.tmps[20]?.getD undef, a.tmps[21]?.getD undef, a.tmps[22]?.getD undef, a.tmps[23]?.getD undef, a.tmps[24]?.getD undef, a.tmps[25]?.getD undef, a.tmps[26]?.getD undef, a.tmps[27]?.getD undef, a.tmps[28]?.getD undef, a.tmps[29]?.getD undef, a.tmps[30]?.getD undef, a.tmps[31]?.getD undef, a.tmps[32]?.getD undef, a.tmps[33]?.getD undef, a.tmps[34]?.getD undef, a.tmps[35]?.getD undef, a.tmps[36]?.getD undef, a.tmps[37]?.getD undef, a.tmps[38]?.getD undef, a.tmps[39]?.getD undef, a.tmps[40]?.getD undef, a.tmps[41]?.getD undef, a.tmps[42]?.getD undef, a.tmps[43]?.getD undef, a.tmps[44]?.getD undef, a.tmps[45]?.getD undef, a.tmps[46]?.getD undef, a.tmps[47]?.getD undef, a.tmps[48]?.getD undef, a.tmps[49]?.getD undef, a.tmps[50]?.getD undef, a.tmps[51]?.getD undef, a.tmps[52]?.getD undef, a.tmps[53]?.getD undef, a.tmps[54]?.getD undef, a.tmps[55]?.getD undef, a.tmps[56]?.getD undef, a.tmps[57]?.getD undef, a.tmps[58]?.getD undef, a.tmps[59]?.getD undef, a.tmps[60]?.getD undef, a.tmps[61]?.getD undef, a.tmps[62]?.getD undef] at hA
    have e0 := hout 0 (fun i o _ h => outB_spec (by kernel_rfl) i o h)
    have e1 := hout 1 (fun i o _ h => outB_spec (by kernel_rfl) i o h)
    have e2 := hout 2 (fun i o _ h => outB_spec (by kernel_rfl) i o h)
    have e3 := hout 3 (fun i o _ h => outB_spec (by kernel_rfl) i o h)
    have e4 := hout 4 (fun i o _ h => outB_spec (by kernel_rfl) i o h)
    have e5 := hout 5 (fun i o _ h => outB_spec (by kernel_rfl) i o h)
    have e6 := hout 6 (fun i o _ h => outB_spec (by kernel_rfl) i o h)
    have e7 := hout 7 (fun i o _ h => outB_spec (by kernel_rfl) i o h)
    have e8 := hout 8 (fun i o _ h => outB_spec (by kernel_rfl) i o h)
    have e9 := hout 9 (fun i o _ h => outB_spec (by kernel_rfl) i o h)
    have e11 := hout 11 (fun i o _ h => outB_spec (by kernel_rfl) i o h)
    have e12 := hout 12 (fun i o _ h => outB_spec (by kernel_rfl) i o h)
    have e13 := hout 13 (fun i o _ h => outB_spec (by kernel_rfl) i o h)
    have e14 := hout 14 (fun i o _ h => outB_spec (by kernel_rfl) i o h)
    have e15 := hout 15 (fun i o _ h => outB_spec (by kernel_rfl) i o h)
    have e16 := hout 16 (fun i o _ h => outB_spec (by kernel_rfl) i o h)
    have e26 := hout 26 (fun i o _ h => outB_spec (by kernel_rfl) i o h)
    have e27 := hout 27 (fun i o _ h => outB_spec (by kernel_rfl) i o h)
    have e28 := hout 28 (fun i o _ h => outB_spec (by kernel_rfl) i o h)
    have e29 := hout 29 (fun i o _ h => outB_spec (by kernel_rfl) i o h)
    have e30 := hout 30 (fun i o _ h => outB_spec (by kernel_rfl) i o h)
    have e31 := hout 31 (fun i o _ h => outB_spec (by kernel_rfl) i o h)
    have e32 := hout 32 (fun i o _ h => outB_spec (by kernel_rfl) i o h)
    have e33 := hout 33 (fun i o _ h => outB_spec (by kernel_rfl) i o h)
    have e34 := hout 34 (fun i o _ h => outB_spec (by kernel_rfl) i o h)
    have e35 := hout 35 (fun i o _ h => outB_spec (by kernel_rfl) i o h)
    have e36 := hout 36 (fun i o _ h => outB_spec (by kernel_rfl) i o h)
    have e37 := hout 37 (fun i o _ h => outB_spec (by kernel_rfl) i o h)
    have e38 := hout 38 (fun i o _ h => outB_spec (by kernel_rfl) i o h)
    have e39 := hout 39 (fun i o _ h => outB_spec (by kernel_rfl) i o h)
    have e40 := hout 40 (fun i o _ h => outB_spec (by kernel_rfl) i o h)
    have e41 := hout 41 (fun i o _ h => outB_spec (by kernel_rfl) i o h)
    have e42 := hout 42 (fun i o _ h => outB_spec (by kernel_rfl) i o h)
    have e43 := hout 43 (fun i o _ h => outB_spec (by kernel_rfl) i o h)
    have e44 := hout 44 (fun i o _ h => outB_spec (by kernel_rfl) i o h)
    have e45 := hout 45 (fun i o _ h => outB_spec (by kernel_rfl) i o h)
    have e46 := hout 46 (fun i o _ h => outB_spec (by kernel_rfl) i o h)
    have e47 := hout 47 (fun i o _ h => outB_spec (by kernel_rfl) i o h)
    have e48 := hout 48 (fun i o _ h => outB_spec (by kernel_rfl) i o h)
    have e49 := hout 49 (fun i o _ h => outB_spec (by kernel_rfl) i o h)
    have e50 := hout 50 (fun i o _ h => outB_spec (by kernel_rfl) i o h)
    have e51 := hout 51 (fun i o _ h => outB_spec (by kernel_rfl) i o h)
    have e52 := hout 52 (fun i o _ h => outB_spec (by kernel_rfl) i o h)
    have e53 := hout 53 (fun i o _ h => outB_spec (by kernel_rfl) i o h)
    have e54 := hout 54 (fun i o _ h => outB_spec (by kernel_rfl) i o h)
    have e55 := hout 55 (fun i o _ h => outB_spec (by kernel_rfl) i o h)
    have e56 := hout 56 (fun i o _ h => outB_spec (by kernel_rfl) i o h)
    have e57 := hout 57 (fun i o _ h => outB_spec (by kernel_rfl) i o h)
    have e58 := hout 58 (fun i o _ h => outB_spec (by kernel_rfl) i o h)
    have e59 := hout 59 (fun i o _ h => outB_spec (by kernel_rfl) i o h)
    have e60 := hout 60 (fun i o _ h => outB_spec (by kernel_rfl) i o h)
    have e61 := hout 61 (fun i o _ h => outB_spec (by kernel_rfl) i o h)
    have e62 := hout 62 (fun i o _ h => outB_spec (by kernel_rfl) i o h)
    simp only [Array.getD_eq_getD_getElem?, List.getElem?_toArray, List.getElem?_cons_zero, List.getElem?_cons_succ, Option.getD_some] at e0 e1 e2 e3 e4 e5 e6 e7 e8 e9 e11 e12 e13 e14 e15 e16 e26 e27 e28 e29 e30 e31 e32 e33 e34 e35 e36 e37 e38 e39 e40 e41 e42 e43 e44 e45 e46 e47 e48 e49 e50 e51 e52 e53 e54 e55 e56 e57 e58 e59 e60 e61 e62
    rw [e0, e1, e2, e3, e4, e5, e6, e7, e8, e9, e11, e12, e13, e14, e15, e16, e26, e27, e28, e29, e30, e31, e32, e33, e34, e35, e36, e37, e38, e39, e40, e41, e42, e43, e44, e45, e46, e47, e48, e49, e50, e51, e52, e53, e54, e55, e56, e57, e58, e59, e60, e61, e62] at hA
    clear e0 e1 e2 e3 e4 e5 e6 e7 e8 e9 e11 e12 e13 e14 e15 e16 e26 e27 e28 e29 e30 e31 e32 e33 e34 e35 e36 e37 e38 e39 e40 e41 e42 e43 e44 e45 e46 e47 e48 e49 e50 e51 e52 e53 e54 e55 e56 e57 e58 e59 e60 e61 e62 hout
    have hds2 : a.defers = [] := hdef
    have ea : a = ⟨a.tmps, a.defers⟩ := rfl
    have s21 : a.tmps[21]?.getD undef = v := by simpa [Array.getD_eq_getD_getElem?] using qv
    have s24 : a.tmps[24]?.getD undef = pu.V := by simpa [Array.getD_eq_getD_getElem?] using qu
    rw [hA, hds2, s21, s24] at ea
    clear hA hds2 s21 qv s24 qu hdef
    generalize a.tmps[17]?.getD undef = y17 at ea
    generalize a.tmps[18]?.getD undef = y18 at ea
    generalize a.tmps[19]?.getD undef = y19 at ea
    generalize a.tmps[20]?.getD undef = y20 at ea
    generalize a.tmps[22]?.getD undef = y22 at ea
    generalize a.tmps[23]?.getD undef = y23 at ea
    generalize a.tmps[25]?.getD undef = y25 at ea
    generalize a.tmps[10]?.getD undef = y10 at ea
    clear hsz
    subst ea
    have bx : Below wr.heap.size wr w2 := Below.trans (Below.refl _ _).drew hx
    refine wpOp_do rfl (by rfl) ?_
    have hsB : wr.heap.size ≤ w2.heap.size := bx.size
    refine wp_app_own0 (.tmp 21) (.tmp 24) rfl wr.heap.size v (L.take m) pu rfl rfl hv iu hsB (by rw [HTm.out, lu, HDm.out]; omega) ?_
    intro v' w' ow' b'
    refine wpOp_do rfl (by rfl) ?_
    refine wp_asg2 _ rfl ?_
    rw [lu, List.take_append_drop] at ow'
    have xw : Ex wr w' := Below.trans bx b'
    obtain ⟨pj, hpj, hjl, hji⟩ := own_pt0 ow'
    have HA2 := Lib.hid (HA.out.ext xw)
    have HB2 := Lib.hid (HB.out.ext xw)
    have BI2 := Lib.hid (BI.out.ext xw)
    have bw2 := bw.trans (xw.mono (by omega))
    have bz2 : w.heap.size + 2 ≤ w'.heap.size := by have := xw.size; omega
    have HPJ := Lib.hid hpj
    have HJL := Lib.hid hjl
    have HJI := Lib.hid hji
    clear HA HB BI bw bz hv iu lu ow' b' xw bx hx hsB hbi hpj hjl hji
    go_simp
    rw [HPJ.out]
    have hji := HJI.out
    have hjl := HJL.out
    have hbi := BI2.out
    have HA := HA2
    have HB := HB2
    obtain ⟨D, hD⟩ : ∃ x, x = sumL L := ⟨_, rfl⟩
    have hDl : D.length = 16 := by rw [hD]; exact sumL_len _
    obtain ⟨Ky, hKy⟩ : ∃ x, x = sumL (kl ++ L) := ⟨_, rfl⟩
    have hKyl : Ky.length = 16 := by rw [hKy]; exact sumL_len _
    obtain ⟨Tw, hTw⟩ : ∃ x, x = sumL (kl ++ ll) := ⟨_, rfl⟩
    have hTwl : Tw.length = 16 := by rw [hTw]; exact sumL_len _
    have SM := Lib.hid (show ∀ (W : World) (p : Pt), p.l = L → p.In W W.heap.size → Calls Try.prog 21 #[p.V] W fun e w' => e = .returned (digV D) ∧ Below W.heap.size W w' from fun W p h1 i1 => by
      have h := sum_pt p W i1 (by rw [h1, HLn.out]; omega)
      rw [h1, ← hD] at h; exact h)
    have KY := Lib.hid (show ∀ (W : World) (p : Pt), p.l = L → p.In W W.heap.size → Calls Try.prog 22 #[digV kl, p.V] W fun e w' => e = .returned (digV Ky) ∧ Below W.heap.size W w' from fun W p h1 i1 => by
      have h := keyed_any kl HK.out p W i1 (by rw [h1, HLn.out]; omega)
      rw [h1, ← hKy] at h; exact h)
    have SK := Lib.hid (show ∀ (W : World) (p : Pt), p.l = kl ++ L → p.In W W.heap.size → Calls Try.prog 21 #[p.V] W fun e w' => e = .returned (digV Ky) ∧ Below W.heap.size W w' from fun W p h1 i1 => by
      have h := sum_pt p W i1 (by rw [h1, List.length_append, HLn.out, HK.out]; omega)
      rw [h1, ← hKy] at h; exact h)
    have TW := Lib.hid (show ∀ W : World, Calls Try.prog 24 #[digV kl, digV ll] W fun e w' => e = .returned (digV Tw) ∧ Below W.heap.size W w' from fun W => by
      have h := two_any kl ll HK.out HL.out W
      rw [← hTw] at h; exact h)
    have KL := Lib.hid (show ∀ (W : World) (p : Pt), p.l = ll → p.In W W.heap.size → Calls Try.prog 22 #[digV kl, p.V] W fun e w' => e = .returned (digV Tw) ∧ Below W.heap.size W w' from fun W p h1 i1 => by
      have h := keyed_any kl HK.out p W i1 (by rw [h1, HL.out]; omega)
      rw [h1, ← hTw] at h; exact h)
    clear HA2 HB2 BI2 hD hKy hTw
    go_wp2_with fail
    generalize w' = wr at *
    obtain ⟨T, hT⟩ : ∃ T : List As4, T = [.pt L, .is (digV D), .pt L, .is (digV D), .is (.bool false), .is (.bool false), .is (digV kl), .pt L, .is (digV Ky), .emp wr.heap.size, .pt kl, .own wr.heap.size kl, .pt L] := ⟨_, rfl⟩
    obtain ⟨T2, hT2⟩ : ∃ T : List As4, T = [.any, .any, .any, .any, .any, .is (.bool false), .any, .any, .is (digV Ky), .any, .any, .any, .any, .pt (kl ++ L), .is (digV Ky), .is (.bool false), .is (.bool false), .is (.bool false), .is (digV kl), .is (digV ll), .is (digV Tw), .is (digV kl), .pt ll, .is (digV Tw), .is (.bool false)] := ⟨_, rfl⟩
    refine wp_region_cut 13 25 (tabPhi4 T) (tabPhi4 T2) (by kernel_rfl) rfl (by omega) (by kernel_rfl) (by kernel_rfl) (by kernel_rfl) (by kernel_rfl) (by kernel_rfl) (tabPhi4_stable T) (tabPhi4_stable T2) (fitB_spec (by kernel_rfl)) ?_ ?_
    · intro i o hi ho
      have hi' : i = 0 ∨ i = 1 ∨ i = 2 ∨ i = 3 ∨ i = 4 ∨ i = 5 ∨ i = 6 ∨ i = 7 ∨ i = 8 ∨ i = 9 ∨ i = 10 ∨ i = 11 ∨ i = 12 := by omega
      rcases hi' with rfl | rfl | rfl | rfl | rfl | rfl | rfl | rfl | rfl | rfl | rfl | rfl | rfl
      all_goals (simp only [List.getElem?_toArray, List.getElem?_cons_zero, List.getElem?_cons_succ, Option.some.injEq] at ho; subst ho; intro a w2 hx hsz hdep hout)
      · rw [if_pos (by rfl)]
        intro K hK
        have f := hout 10 (outB_spec (by kernel_rfl))
        exact wp_mv _ rfl (hK _ _ (Ex.refl _) (by rw [hT]; exact ⟨pj, f, hjl, hji.ext (Ex.trans (show Ex wr wr.drew from (Below.refl _ _).drew) hx)⟩))
      · rw [if_pos (by rfl)]
        intro K hK
        obtain ⟨v, hv, kv⟩ := hdep ⟨0, .data⟩ (by simp) rfl _ rfl
        have qv := kv _ rfl
        rw [hT] at hv
        obtain ⟨pv, rfl, lv, iv⟩ := hv
        go_simp
        refine (SM.out w2 pv lv iv).mono ?_
        rintro e w3 ⟨rfl, hex⟩
        exact hK _ _ hex (by rw [hT]; rfl)
      · rw [if_pos (by rfl)]
        intro K hK
        have f := hout 2 (outB_spec (by kernel_rfl))
        exact wp_mv _ rfl (hK _ _ (Ex.refl _) (by rw [hT]; exact ⟨pb, f, hbl, hbi.ext (Ex.trans (show Ex wr wr.drew from (Below.refl _ _).drew) hx)⟩))
      · rw [if_pos (by rfl)]
        intro K hK
        obtain ⟨v, hv, kv⟩ := hdep ⟨2, .data⟩ (by simp) rfl _ rfl
        have qv := kv _ rfl
        rw [hT] at hv
        obtain ⟨pv, rfl, lv, iv⟩ := hv
        go_simp
        refine (SM.out w2 pv lv iv).mono ?_
        rintro e w3 ⟨rfl, hex⟩
        exact hK _ _ hex (by rw [hT]; rfl)
      · rw [if_pos (by rfl)]
        intro K hK
        obtain ⟨v, hv, kv⟩ := hdep ⟨1, .data⟩ (by simp) rfl _ rfl
        have qv := kv _ rfl
        rw [hT] at hv
        obtain rfl : v = digV D := hv
        obtain ⟨u, hu, ku⟩ := hdep ⟨3, .data⟩ (by simp) rfl _ rfl
        have qu := ku _ rfl
        rw [hT] at hu
        obtain rfl : u = digV D := hu
        exact wp_neq_dig _ _ _ rfl D D hDl hDl qv qu (hK _ _ (Ex.refl _) (by rw [hT, decide_eq_true rfl]; rfl))
      · rw [if_pos (by rfl)]
        intro K hK
        obtain ⟨v, hv, kv⟩ := hdep ⟨4, .data⟩ (by simp) rfl _ rfl
        have qv := kv _ rfl
        rw [hT] at hv
        obtain rfl : v = .bool false := hv
        exact wp_mv _ rfl (hK _ _ (Ex.refl _) (by rw [hT]; exact qv))
      · obtain ⟨vg, hvg, kg⟩ := hdep ⟨5, .guard⟩ (by simp) rfl _ rfl
        rw [hT] at hvg
        obtain rfl : vg = .bool false := hvg
        rw [if_pos (wanted_of rfl rfl rfl (kg _ rfl))]
        intro K hK
        have f := hout 4 (outB_spec (by kernel_rfl))
        exact wp_ld _ w.heap.size kl rfl f (HA.out.ext (Ex.trans (show Ex wr wr.drew from (Below.refl _ _).drew) hx)) (hK _ _ (Ex.refl _) (by rw [hT]; rfl))
      · obtain ⟨vg, hvg, kg⟩ := hdep ⟨5, .guard⟩ (by simp) rfl _ rfl
        rw [hT] at hvg
        obtain rfl : vg = .bool false := hvg
        rw [if_pos (wanted_of rfl rfl rfl (kg _ rfl))]
        intro K hK
        have f := hout 2 (outB_spec (by kernel_rfl))
        exact wp_mv _ rfl (hK _ _ (Ex.refl _) (by rw [hT]; exact ⟨pb, f, hbl, hbi.ext (Ex.trans (show Ex wr wr.drew from (Below.refl _ _).drew) hx)⟩))
      · obtain ⟨vg, hvg, kg⟩ := hdep ⟨5, .guard⟩ (by simp) rfl _ rfl
        rw [hT] at hvg
        obtain rfl : vg = .bool false := hvg
        rw [if_pos (wanted_of rfl rfl rfl (kg _ rfl))]
        intro K hK
        obtain ⟨v, hv, kv⟩ := hdep ⟨6, .data⟩ (by simp) rfl _ rfl
        have qv := kv _ rfl
        rw [hT] at hv
        obtain rfl : v = digV kl := hv
        obtain ⟨u, hu, ku⟩ := hdep ⟨7, .data⟩ (by simp) rfl _ rfl
        have qu := ku _ rfl
        rw [hT] at hu
        obtain ⟨pu, rfl, lu, iu⟩ := hu
        go_simp
        refine (KY.out w2 pu lu iu).mono ?_
        rintro e w3 ⟨rfl, hex⟩
        exact hK _ _ hex (by rw [hT]; rfl)
      · obtain ⟨vg, hvg, kg⟩ := hdep ⟨5, .guard⟩ (by simp) rfl _ rfl
        rw [hT] at hvg
        obtain rfl : vg = .bool false := hvg
        rw [if_pos (wanted_of rfl rfl rfl (kg _ rfl))]
        intro K hK
        clear hsz hdep hout kg
        go_simp
        have hex : Ex w2 (w2.alloc (.cells #[] 5)) := (Below.refl _ _).alloc (Nat.le_refl _) _
        exact hK _ _ hex (by rw [hT]; exact ⟨w2.heap.size, rfl, hx.size, Bk.new rfl _ _⟩)
      · obtain ⟨vg, hvg, kg⟩ := hdep ⟨5, .guard⟩ (by simp) rfl _ rfl
        rw [hT] at hvg
        obtain rfl : vg = .bool false := hvg
        rw [if_pos (wanted_of rfl rfl rfl (kg _ rfl))]
        intro K hK
        have f := hout 4 (outB_spec (by kernel_rfl))
        clear hsz hdep hout kg
        go_simp
        exact hK _ _ (Ex.refl _) (by rw [hT]; exact ⟨⟨some ⟨w.heap.size, 0, none⟩, 16, kl⟩, (by unfold Pt.V; simp only [HK.out]), rfl, (HA.out.ext (Ex.trans (show Ex wr wr.drew from (Below.refl _ _).drew) hx)).pt⟩)
      · obtain ⟨vg, hvg, kg⟩ := hdep ⟨5, .guard⟩ (by simp) rfl _ rfl
        rw [hT] at hvg
        obtain rfl : vg = .bool false := hvg
        rw [if_pos (wanted_of rfl rfl rfl (kg _ rfl))]
        intro K hK
        obtain ⟨v, hv, kv⟩ := hdep ⟨9, .data⟩ (by simp) rfl _ rfl
        have qv := kv _ rfl
        rw [hT] at hv
        obtain ⟨gv, rfl, bv, dv⟩ := hv
        obtain ⟨u, hu, ku⟩ := hdep ⟨10, .data⟩ (by simp) rfl _ rfl
        have qu := ku _ rfl
        rw [hT] at hu
        obtain ⟨pu, rfl, lu, iu⟩ := hu
        refine wp_app_emp (.tmp 35) (.tmp 36) rfl wr.heap.size gv pu ?_ ?_ bv dv hx.size iu (by rw [lu, HK.out]; omega) ?_
        · simpa [Act.eval, Array.getD_eq_getD_getElem?] using qv
        · simpa [Act.eval, Array.getD_eq_getD_getElem?] using qu
        · intro v' w3 ow hex
          rw [lu] at ow
          exact hK _ _ hex (by rw [hT]; exact ow)
      · obtain ⟨vg, hvg, kg⟩ := hdep ⟨5, .guard⟩ (by simp) rfl _ rfl
        rw [hT] at hvg
        obtain rfl : vg = .bool false := hvg
        rw [if_pos (wanted_of rfl rfl rfl (kg _ rfl))]
        intro K hK
        have f := hout 2 (outB_spec (by kernel_rfl))
        exact wp_mv _ rfl (hK _ _ (Ex.refl _) (by rw [hT]; exact ⟨pb, f, hbl, hbi.ext (Ex.trans (show Ex wr wr.drew from (Below.refl _ _).drew) hx)⟩))
    · intro a w2 o ho hx hdef hsz hdone hout
      simp only [List.getElem?_toArray, List.getElem?_cons_zero, List.getElem?_cons_succ, Option.some.injEq] at ho
      subst ho
      obtain ⟨vg, hvg, kg⟩ := hdone 5 _ (by omega) rfl
      have qg := kg _ rfl
      rw [hT] at hvg
      obtain rfl : vg = .bool false := hvg
      obtain ⟨v, hv, kv⟩ := hdone 11 _ (by omega) rfl
      have qv := kv _ rfl
      rw [hT] at hv
      have hv : ownU w2 wr.heap.size v kl := hv
      obtain ⟨u, hu, ku⟩ := hdone 12 _ (by omega) rfl
      have qu := ku _ rfl
      rw [hT] at hu
      obtain ⟨pu, rfl, lu, iu⟩ := hu
      have bx : Below wr.heap.size wr w2 := Below.trans (Below.refl _ _).drew hx
      refine wpOp_do rfl (wanted_of rfl rfl rfl qg) ?_
      refine wp_app_own0 (.tmp 37) (.tmp 38) rfl wr.heap.size v kl pu ?_ ?_ hv iu bx.size (by rw [HK.out, lu, HLn.out]; omega) ?_
      · simpa [Act.eval, Array.getD_eq_getD_getElem?] using qv
      · simpa [Act.eval, Array.getD_eq_getD_getElem?] using qu
      · intro v' wq ow' b'
        rw [lu] at ow'
        have xw : Ex wr wq := Below.trans bx b'
        have HAq := Lib.hid (HA.out.ext xw)
        have HBq := Lib.hid (HB.out.ext xw)
        have bwq := bw2.trans (xw.mono (by omega))
        have bzq : w.heap.size + 2 ≤ wq.heap.size := by have := xw.size; omega
        have OWQ := Lib.hid (own_pt0 ow')
        clear hdone hout kv ku kg qv qu qg hv lu iu bx hx b' ow' xw HA HB bw2 bz2 hbi hji hjl
        refine ⟨v', rfl, ?_, ?_, ?_, ?_⟩
        · rw [hT2]
          exact OWQ.out
        · intro i y hi hy
          rw [hT] at hy
          rw [hT2]
          have hi' : i = 0 ∨ i = 1 ∨ i = 2 ∨ i = 3 ∨ i = 4 ∨ i = 5 ∨ i = 6 ∨ i = 7 ∨ i = 8 ∨ i = 9 ∨ i = 10 ∨ i = 11 ∨ i = 12 := by omega
          rcases hi' with rfl | rfl | rfl | rfl | rfl | rfl | rfl | rfl | rfl | rfl | rfl | rfl | rfl
          all_goals first | exact trivial | exact hy
        · clear hT T
          have hT := hT2
          clear hT2
          intro i o hi1 hi2 ho
          have hi' : i = 14 ∨ i = 15 ∨ i = 16 ∨ i = 17 ∨ i = 18 ∨ i = 19 ∨ i = 20 ∨ i = 21 ∨ i = 22 ∨ i = 23 ∨ i = 24 := by omega
          rcases hi' with rfl | rfl | rfl | rfl | rfl | rfl | rfl | rfl | rfl | rfl | rfl
          all_goals (simp only [List.getElem?_toArray, List.getElem?_cons_zero, List.getElem?_cons_succ, Option.some.injEq] at ho; subst ho; intro a w2 hx hsz hdep hout)
          · obtain ⟨vg, hvg, kg⟩ := hdep ⟨5, .guard⟩ (by simp) rfl _ rfl
            rw [hT] at hvg
            obtain rfl : vg = .bool false := hvg
            rw [if_pos (wanted_of rfl rfl rfl (kg _ rfl))]
            intro K hK
            obtain ⟨v, hv, kv⟩ := hdep ⟨13, .data⟩ (by simp) rfl _ rfl
            have qv := kv _ rfl
            rw [hT] at hv
            obtain ⟨pv, rfl, lv, iv⟩ := hv
            go_simp
            refine (SK.out w2 pv lv iv).mono ?_
            rintro e w3 ⟨rfl, hex⟩
            exact hK _ _ hex (by rw [hT]; rfl)
          · obtain ⟨vg, hvg, kg⟩ := hdep ⟨5, .guard⟩ (by simp) rfl _ rfl
            rw [hT] at hvg
            obtain rfl : vg = .bool false := hvg
            rw [if_pos (wanted_of rfl rfl rfl (kg _ rfl))]
            intro K hK
            obtain ⟨v, hv, kv⟩ := hdep ⟨8, .data⟩ (by simp) rfl _ rfl
            have qv := kv _ rfl
            rw [hT] at hv
            obtain rfl : v = digV Ky := hv
            obtain ⟨u, hu, ku⟩ := hdep ⟨14, .data⟩ (by simp) rfl _ rfl
            have qu := ku _ rfl
            rw [hT] at hu
            obtain rfl : u = digV Ky := hu
            exact wp_neq_dig _ _ _ rfl Ky Ky hKyl hKyl qv qu (hK _ _ (Ex.refl _) (by rw [hT, decide_eq_true rfl]; rfl))
          · rw [if_pos (by rfl)]
            intro K hK
            obtain ⟨v, hv, kv⟩ := hdep ⟨5, .data⟩ (by simp) rfl _ rfl
            have qv := kv _ rfl
            rw [hT] at hv
            obtain rfl : v = .bool false := hv
            obtain ⟨u, hu, ku⟩ := hdep ⟨15, .data⟩ (by simp) rfl _ rfl
            have qu := ku _ rfl
            rw [hT] at hu
            obtain rfl : u = .bool false := hu
            clear hsz hdep hout
            go_simp
            exact hK _ _ (Ex.refl _) (by rw [hT]; rfl)
          · rw [if_pos (by rfl)]
            intro K hK
            obtain ⟨v, hv, kv⟩ := hdep ⟨16, .data⟩ (by simp) rfl _ rfl
            have qv := kv _ rfl
            rw [hT] at hv
            obtain rfl : v = .bool false := hv
            exact wp_mv _ rfl (hK _ _ (Ex.refl _) (by rw [hT]; exact qv))
          · obtain ⟨vg, hvg, kg⟩ := hdep ⟨17, .guard⟩ (by simp) rfl _ rfl
            rw [hT] at hvg
            obtain rfl : vg = .bool false := hvg
            rw [if_pos (wanted_of rfl rfl rfl (kg _ rfl))]
            intro K hK
            have f := hout 4 (outB_spec (by kernel_rfl))
            exact wp_ld _ w.heap.size kl rfl f (HAq.out.ext (Ex.trans (show Ex wq wq.drew from (Below.refl _ _).drew) hx)) (hK _ _ (Ex.refl _) (by rw [hT]; rfl))
          · obtain ⟨vg, hvg, kg⟩ := hdep ⟨17, .guard⟩ (by simp) rfl _ rfl
            rw [hT] at hvg
            obtain rfl : vg = .bool false := hvg
            rw [if_pos (wanted_of rfl rfl rfl (kg _ rfl))]
            intro K hK
            have f := hout 5 (outB_spec (by kernel_rfl))
            exact wp_ld _ (w.heap.size + 1) ll rfl f (HBq.out.ext (Ex.trans (show Ex wq wq.drew from (Below.refl _ _).drew) hx)) (hK _ _ (Ex.refl _) (by rw [hT]; rfl))
          · obtain ⟨vg, hvg, kg⟩ := hdep ⟨17, .guard⟩ (by simp) rfl _ rfl
            rw [hT] at hvg
            obtain rfl : vg = .bool false := hvg
            rw [if_pos (wanted_of rfl rfl rfl (kg _ rfl))]
            intro K hK
            obtain ⟨v, hv, kv⟩ := hdep ⟨18, .data⟩ (by simp) rfl _ rfl
            have qv := kv _ rfl
            rw [hT] at hv
            obtain rfl : v = digV kl := hv
            obtain ⟨u, hu, ku⟩ := hdep ⟨19, .data⟩ (by simp) rfl _ rfl
            have qu := ku _ rfl
            rw [hT] at hu
            obtain rfl : u = digV ll := hu
            go_simp
            refine (TW.out w2).mono ?_
            rintro e w3 ⟨rfl, hex⟩
            exact hK _ _ hex (by rw [hT]; rfl)
          · obtain ⟨vg, hvg, kg⟩ := hdep ⟨17, .guard⟩ (by simp) rfl _ rfl
            rw [hT] at hvg
            obtain rfl : vg = .bool false := hvg
            rw [if_pos (wanted_of rfl rfl rfl (kg _ rfl))]
            intro K hK
            have f := hout 4 (outB_spec (by kernel_rfl))
            exact wp_ld _ w.heap.size kl rfl f (HAq.out.ext (Ex.trans (show Ex wq wq.drew from (Below.refl _ _).drew) hx)) (hK _ _ (Ex.refl _) (by rw [hT]; rfl))
          · obtain ⟨vg, hvg, kg⟩ := hdep ⟨17, .guard⟩ (by simp) rfl _ rfl
            rw [hT] at hvg
            obtain rfl : vg = .bool false := hvg
            rw [if_pos (wanted_of rfl rfl rfl (kg _ rfl))]
            intro K hK
            have f := hout 5 (outB_spec (by kernel_rfl))
            clear hsz hdep hout kg
            go_simp
            exact hK _ _ (Ex.refl _) (by rw [hT]; exact ⟨⟨some ⟨(w.heap.size + 1), 0, none⟩, 16, ll⟩, (by unfold Pt.V; simp only [HL.out]), rfl, (HBq.out.ext (Ex.trans (show Ex wq wq.drew from (Below.refl _ _).drew) hx)).pt⟩)
          · obtain ⟨vg, hvg, kg⟩ := hdep ⟨17, .guard⟩ (by simp) rfl _ rfl
            rw [hT] at hvg
            obtain rfl : vg = .bool false := hvg
            rw [if_pos (wanted_of rfl rfl rfl (kg _ rfl))]
            intro K hK
            obtain ⟨v, hv, kv⟩ := hdep ⟨21, .data⟩ (by simp) rfl _ rfl
            have qv := kv _ rfl
            rw [hT] at hv
            obtain rfl : v = digV kl := hv
            obtain ⟨u, hu, ku⟩ := hdep ⟨22, .data⟩ (by simp) rfl _ rfl
            have qu := ku _ rfl
            rw [hT] at hu
            obtain ⟨pu, rfl, lu, iu⟩ := hu
            go_simp
            refine (KL.out w2 pu lu iu).mono ?_
            rintro e w3 ⟨rfl, hex⟩
            exact hK _ _ hex (by rw [hT]; rfl)
          · obtain ⟨vg, hvg, kg⟩ := hdep ⟨17, .guard⟩ (by simp) rfl _ rfl
            rw [hT] at hvg
            obtain rfl : vg = .bool false := hvg
            rw [if_pos (wanted_of rfl rfl rfl (kg _ rfl))]
            intro K hK
            obtain ⟨v, hv, kv⟩ := hdep ⟨20, .data⟩ (by simp) rfl _ rfl
            have qv := kv _ rfl
            rw [hT] at hv
            obtain rfl : v = digV Tw := hv
            obtain ⟨u, hu, ku⟩ := hdep ⟨23, .data⟩ (by simp) rfl _ rfl
            have qu := ku _ rfl
            rw [hT] at hu
            obtain rfl : u = digV Tw := hu
            exact wp_neq_dig _ _ _ rfl Tw Tw hTwl hTwl qv qu (hK _ _ (Ex.refl _) (by rw [hT, decide_eq_true rfl]; rfl))
        · clear hT T
          have hT := hT2
          clear hT2
          intro a w2 hx hdef hsz hdone hout
          obtain ⟨v, hv, kv⟩ := hdone 17 _ (by omega) rfl
          have qv := kv _ rfl
          rw [hT] at hv
          obtain rfl : v = .bool false := hv
          obtain ⟨u, hu, ku⟩ := hdone 24 _ (by omega) rfl
          have qu := ku _ rfl
          rw [hT] at hu
          obtain rfl : u = .bool false := hu
          clear hdone kv ku hT
          have hA := arr_range a.tmps 63 hsz
          change a.tmps = #[a.tmps[0]?.getD undef, a.tmps[1]?.getD undef, a.tmps[2]?.getD undef, a.tmps[3]?.getD undef, a.tmps[4]?.getD undef, a.tmps[5]?.getD undef, a.tmps[6]?.getD undef, a.tmps[7]?.getD undef, a.tmps[8]?.getD undef, a.tmps[9]?.getD undef, a.tmps[10]?.getD undef, a.tmps[11]?.getD undef, a.tmps[12]?.getD undef, a.tmps[13]?.getD undef, a.tmps[14]?.getD undef, a.tmps[15]?.getD undef, a.tmps[16]?.getD undef, a.tmps[17]?.getD undef, a.tmps[18]?.getD undef, a.tmps[19]?.getD undef, a.tmps[20]?.getD undef, a.tmps[21]?.getD undef, a.tmps[22]?.getD undef, a.tmps[23]?.getD undef, a.tmps[24]?.getD undef, a.tmps[25]?.getD undef, a.tmps[26]?.getD undef, a.tmps[27]?.getD undef, a.tmps[28]?.getD undef, a.tmps[29]?.getD undef, a.tmps[30]?.getD undef, a.tmps[31]?.getD undef, a.tmps[32]?.getD undef, a.tmps[33]?.getD undef, a.tmps[34]?.getD undef, a.tmps[35]?.getD undef, a.tmps[36]?.getD undef, a.tmps[37]?.getD undef, a.tmps[38]?.getD undef, a.tmps[39]?.getD undef, a.tmps[40]?.getD undef, a.tmps[41]?.getD undef, a.tmps[42]?.getD undef, a.tmps[43]?.getD undef, a.tmps[44]?.getD undef, a.tmps[45]?.getD undef, a.tmps[46]?.getD undef, a.tmps[47]?.getD undef, a.tmps[48]?.getD undef, a.tmps[49]?.getD undef, a.tmps[50]?.getD undef, a.tmps[51]?.getD undef, a.tmps[52]?.getD undef, a.tmps[53]?.getD undef, a.tmps[54]?.getD undef, a.tmps[55]?.getD undef, a.tmps[56]?.getD undef, a.tmps[57]?.getD undef, a.tmps[58]?.getD undef, a.tmps[59]?.getD undef, a.tmps[60]?.getD undef, a.tmps[61]?.getD undef, a.tmps[62]?.getD undef] at hA
          have e0 := hout 0 (fun i o _ h => outB_spec (by kernel_rfl) i o h)
          have e1 := hout 1 (fun i o _ h => outB_spec (by kernel_rfl) i o h)
          have e2 := hout 2 (fun i o _ h => outB_spec (by kernel_rfl) i o h)
          have e3 := hout 3 (fun i o _ h => outB_spec (by kernel_rfl) i o h)
          have e4 := hout 4 (fun i o _ h => outB_spec (by kernel_rfl) i o h)
          have e5 := hout 5 (fun i o _ h => outB_spec (by kernel_rfl) i o h)
          have e6 := hout 6 (fun i o _ h => outB_spec (by kernel_rfl) i o h)
          have e7 := hout 7 (fun i o _ h => outB_spec (by kernel_rfl) i o h)
          have e8 := hout 8 (fun i o _ h => outB_spec (by kernel_rfl) i o h)
          have e9 := hout 9 (fun i o _ h => outB_spec (by kernel_rfl) i o h)
          have e10 := hout 10 (fun i o _ h => outB_spec (by kernel_rfl) i o h)
          have e11 := hout 11 (fun i o _ h => outB_spec (by kernel_rfl) i o h)
          have e12 := hout 12 (fun i o _ h => outB_spec (by kernel_rfl) i o h)
          have e13 := hout 13 (fun i o _ h => outB_spec (by kernel_rfl) i o h)
          have e14 := hout 14 (fun i o _ h => outB_spec (by kernel_rfl) i o h)
          have e15 := hout 15 (fun i o _ h => outB_spec (by kernel_rfl) i o h)
          have e16 := hout 16 (fun i o _ h => outB_spec (by kernel_rfl) i o h)
          have e17 := hout 17 (fun i o _ h => outB_spec (by kernel_rfl) i o h)
          have e18 := hout 18 (fun i o _ h => outB_spec (by kernel_rfl) i o h)
          have e19 := hout 19 (fun i o _ h => outB_spec (by kernel_rfl) i o h)
          have e20 := hout 20 (fun i o _ h => outB_spec (by kernel_rfl) i o h)
          have e21 := hout 21 (fun i o _ h => outB_spec (by kernel_rfl) i o h)
          have e22 := hout 22 (fun i o _ h => outB_spec (by kernel_rfl) i o h)
          have e23 := hout 23 (fun i o _ h => outB_spec (by kernel_rfl) i o h)
          have e24 := hout 24 (fun i o _ h => outB_spec (by kernel_rfl) i o h)
          have e25 := hout 25 (fun i o _ h => outB_spec (by kernel_rfl) i o h)
          have e52 := hout 52 (fun i o _ h => outB_spec (by kernel_rfl) i o h)
          have e53 := hout 53 (fun i o _ h => outB_spec (by kernel_rfl) i o h)
          have e54 := hout 54 (fun i o _ h => outB_spec (by kernel_rfl) i o h)
          have e55 := hout 55 (fun i o _ h => outB_spec (by kernel_rfl) i o h)
          have e56 := hout 56 (fun i o _ h => outB_spec (by kernel_rfl) i o h)
          have e57 := hout 57 (fun i o _ h => outB_spec (by kernel_rfl) i o h)
          have e58 := hout 58 (fun i o _ h => outB_spec (by kernel_rfl) i o h)
          have e59 := hout 59 (fun i o _ h => outB_spec (by kernel_rfl) i o h)
          have e60 := hout 60 (fun i o _ h => outB_spec (by kernel_rfl) i o h)
          have e61 := hout 61 (fun i o _ h => outB_spec (by kernel_rfl) i o h)
          have e62 := hout 62 (fun i o _ h => outB_spec (by kernel_rfl) i o h)
          simp only [Array.getD_eq_getD_getElem?, List.getElem?_toArray, List.getElem?_cons_zero, List.getElem?_cons_succ, Option.getD_some] at e0 e1 e2 e3 e4 e5 e6 e7 e8 e9 e10 e11 e12 e13 e14 e15 e16 e17 e18 e19 e20 e21 e22 e23 e24 e25 e52 e53 e54 e55 e56 e57 e58 e59 e60 e61 e62
          rw [e0, e1, e2, e3, e4, e5, e6, e7, e8, e9, e10, e11, e12, e13, e14, e15, e16, e17, e18, e19, e20, e21, e22, e23, e24, e25, e52, e53, e54, e55, e56, e57, e58, e59, e60, e61, e62] at hA
          clear e0 e1 e2 e3 e4 e5 e6 e7 e8 e9 e10 e11 e12 e13 e14 e15 e16 e17 e18 e19 e20 e21 e22 e23 e24 e25 e52 e53 e54 e55 e56 e57 e58 e59 e60 e61 e62 hout
          have hds2 : a.defers = [] := hdef
          have ea : a = ⟨a.tmps, a.defers⟩ := rfl
          have s43 : a.tmps[43]?.getD undef = .bool false := by simpa [Array.getD_eq_getD_getElem?] using qv
          have s50 : a.tmps[50]?.getD undef = .bool false := by simpa [Array.getD_eq_getD_getElem?] using qu
          rw [hA, hds2, s43, s50] at ea
          clear hA hds2 s43 qv s50 qu hdef
          generalize a.tmps[26]?.getD undef = y26 at ea
          generalize a.tmps[27]?.getD undef = y27 at ea
          generalize a.tmps[28]?.getD undef = y28 at ea
          generalize a.tmps[29]?.getD undef = y29 at ea
          generalize a.tmps[30]?.getD undef = y30 at ea
          generalize a.tmps[31]?.getD undef = y31 at ea
          generalize a.tmps[32]?.getD undef = y32 at ea
          generalize a.tmps[33]?.getD undef = y33 at ea
          generalize a.tmps[34]?.getD undef = y34 at ea
          generalize a.tmps[35]?.getD undef = y35 at ea
          generalize a.tmps[36]?.getD undef = y36 at ea
          generalize a.tmps[37]?.getD undef = y37 at ea
          generalize a.tmps[38]?.getD undef = y38 at ea
          generalize a.tmps[39]?.getD undef = y39 at ea
          generalize a.tmps[40]?.getD undef = y40 at ea
          generalize a.tmps[41]?.getD undef = y41 at ea
          generalize a.tmps[42]?.getD undef = y42 at ea
          generalize a.tmps[44]?.getD undef = y44 at ea
          generalize a.tmps[45]?.getD undef = y45 at ea
          generalize a.tmps[46]?.getD undef = y46 at ea
          generalize a.tmps[47]?.getD undef = y47 at ea
          generalize a.tmps[48]?.getD undef = y48 at ea
          generalize a.tmps[49]?.getD undef = y49 at ea
          generalize a.tmps[51]?.getD undef = y51 at ea
          clear hsz
          subst ea
          have bx : Below wq.heap.size wq w2 := Below.trans (Below.refl _ _).drew hx
          unfold wpOp
          simp only [List.getElem?_toArray, List.getElem?_cons_zero, List.getElem?_cons_succ]
          rw [if_pos (by rfl)]
          left
          have HA6 := Lib.hid (HAq.out.ext (show Ex wq w2 from bx))
          have bw6 := bwq.trans (bx.mono (by omega))
          have ST := Lib.hid (stream_any kl HK.out (m : Int) (by omega) (by omega) m (by omega) w2)
          have SLn := Lib.hid (show (streamL kl (m : Int) m).length = m from streamL_len _ _ _)
          clear HAq HBq bwq bzq bx hx OWQ SM KY SK TW KL
          go_simp
          go_wp2_with ((with_reducible refine at_any ?_ ?_); (focus go_simp); (refine fun K hK => wp_ld _ _ kl rfl rfl (HA6.out) (hK _ _ ?_)))
          refine ST.out.mono ?_
          rintro e w7 ⟨r, rfl, rl, ri, x7⟩
          have hrv : r.V = .slice r.ad m r.cap := by unfold Pt.V; rw [rl, SLn.out]
          rw [hrv]
          have bw7 : Below w.heap.size w w7 := bw6.trans (x7.mono bw6.size)
          have KN := Lib.hid (known2_any w7)
          clear ST rl ri x7 bw6 HA6 hrv
          go_wp2_with fail
          refine KN.out.mono ?_
          rintro e w8 ⟨rfl, x8⟩
          have bw8 : Below w.heap.size w w8 := bw7.trans (x8.mono bw7.size)
          clear x8 KN bw7
          go_wp2_with fail
          go_ret
          exact ⟨rfl, bw8⟩
theorem blendParts_law (v0 v1 v2 : Value) (c : Int) (w : World) (h0 : ∃ l : List UInt8, l.length = 16 ∧ v0 = digV l) (h1 : ∃ l : List UInt8, l.length = 16 ∧ v1 = digV l) (h2 : ∃ p : Pt, v2 = p.V ∧ p.In w w.heap.size ∧ p.l.length ≤ 9223372036854775807) (h3 : (Lit.int .i64 c).wf = true) :
    Calls Try.prog 6 #[v0, v1, v2, .int .i64 c] w fun e w' => e = .returned (.bool true) ∧ Below w.heap.size w w' := by
  obtain ⟨A, hA, rfl⟩ := h0
  obtain ⟨B, hB, rfl⟩ := h1
  obtain ⟨p, rfl, hp, hp2⟩ := h2
  have r3 : -9223372036854775808 ≤ c ∧ c ≤ 9223372036854775807 := by simp [Lit.wf, IntKind.min, IntKind.max, IntKind.signed, IntKind.bits] at h3; omega
  exact bparts_any A B hA hB p c r3 w hp hp2
end Go.Proofs.Ytkneeocicbadjaa
