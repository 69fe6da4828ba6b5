/- walks: chapter 5's own Close and Unclose; open of both -/
import Derived.Test.YtkneeocicbadjaaEnD
import Derived.Test.YtkneeocicbadjaaVeH
namespace Go.Proofs.Ytkneeocicbadjaa
open Go.RowKit
set_option maxHeartbeats 4000000 in
set_option maxRecDepth 100000 in
theorem rclose_any (kl : List UInt8) (hk : kl.length = 16) (n : Int) (n0 : 0 ≤ n) (n1 : n < 18446744073709551616) (to : UInt8) (p : Pt) (w : World) (hp : p.In w w.heap.size) (hl : p.l.length ≤ 8176) :
    Calls Try.prog 49 #[digV kl, .int .u64 n, .int .u8 to.toNat, p.V] w (TupPost (closeL kl n to p.l) 0 w) := by
  obtain ⟨cs, hcs⟩ : ∃ cs, cs = (Lib.byteCells kl).toArray := ⟨_, rfl⟩
  have hv : digV kl = .agg cs := by rw [hcs]; rfl
  have HA : Hid (DB (w.alloc (.cells cs 24)) w.heap.size kl) := by rw [hcs]; exact Lib.hid (DB.new rfl hk)
  have bw : Below w.heap.size w (w.alloc (.cells cs 24)) := (Below.refl _ _).alloc (Nat.le_refl _) _
  obtain ⟨m, hm'⟩ : ∃ m, m = p.l.length := ⟨_, rfl⟩
  obtain ⟨pL, hpL⟩ : ∃ m, m = p.l := ⟨_, rfl⟩
  obtain ⟨X, hX⟩ : ∃ X, X = innerL kl n := ⟨_, rfl⟩
  have hXl : X.length = 16 := by rw [hX]; exact innerL_len _ _
  obtain ⟨S, hS⟩ : ∃ S, S = sealL X n [to] pL := ⟨_, rfl⟩
  have HR := Lib.hid (show closeL kl n to p.l = numL n ++ S by unfold closeL; rw [hS, hX, hpL])
  obtain ⟨ls, hls⟩ : ∃ x, x = S.length := ⟨_, rfl⟩
  have HSl := Lib.hid hls.symm
  have hls2 : ls ≤ 8184 ∧ 8 ≤ ls := by rw [hls, hS, sealL_len, hpL]; omega
  have NN := Lib.hid (rnumberF n n0 n1)
  have IN := Lib.hid (fun W => by have h := rinner_any kl hk n n0 n1 W; rw [← hX] at h; exact h)
  have SE := Lib.hid (show ∀ (W : World) (r t : Pt), r.l = [to] → t.l = pL → r.In W W.heap.size → t.In W W.heap.size → Calls Try.prog 44 #[digV X, .int .u64 n, r.V, t.V] W (PtPost S W) from fun W r t hr ht i1 i2 => by
    have h := rseal_any X hXl n n0 n1 r t W i1 i2 (by rw [hr]; simp) (by rw [ht, hpL]; omega)
    rw [hr, ht, ← hS] at h
    exact h)
  have hpi := hp.ext bw
  have hpv : p.V = .slice p.ad m p.cap := by unfold Pt.V; rw [hm']
  rw [← hm'] at hl
  have hpl : p.l = pL := hpL.symm
  have HPV := Lib.hid hpv
  have bz := bw.size
  rw [HR.out, hv, hpv]
  clear hv hcs hm' hpL hpv hp hk hX hS hls
  go_enter Try.func49, Try.ntmps49
  go_wp2_with fail
  generalize w.alloc (.cells cs 24) = wr at *
  rw [← HPV.out]
  obtain ⟨T, hT⟩ : ∃ T : List As3, T = [.is (.int .u64 n), .full (numL n), .is (digV kl), .is (.int .u64 n), .is (digV X), .is (.int .u64 n), .is (.int .u8 to.toNat), .pt [to], .pt pL, .pt S, .pt (numL n ++ S), .pt (numL n ++ S)] := ⟨_, rfl⟩
  refine wp_region_flow 12 (tabPhi3 T) (by kernel_rfl) rfl (by kernel_rfl) (by kernel_rfl) (by kernel_rfl) (tabPhi3_stable T) (fitB_spec (by kernel_rfl)) ?_ ?_
  · intro i o hi ho
    have hi' : i = 0 ∨ i = 1 ∨ i = 2 ∨ i = 3 ∨ i = 4 ∨ i = 5 ∨ i = 6 ∨ i = 7 ∨ i = 8 ∨ i = 9 ∨ i = 10 ∨ i = 11 := by omega
    rcases hi' with rfl | rfl | rfl | rfl | rfl | rfl | rfl | rfl | rfl | rfl | rfl | rfl
    all_goals (simp only [List.getElem?_toArray, List.getElem?_cons_zero, List.getElem?_cons_succ, Option.some.injEq] at ho; subst ho; intro a w2 hx hsz hdep hout)
    · rw [if_pos (by rfl)]
      intro K hK
      have f := hout 1 (outB_spec (by kernel_rfl))
      exact wp_mv _ rfl (hK _ _ (Ex.refl _) (by rw [hT]; exact f))
    · rw [if_pos (by rfl)]
      intro K hK
      obtain ⟨v, hv, kv⟩ := hdep ⟨0, .data⟩ (by simp) rfl _ rfl
      have qv := kv _ rfl
      rw [hT] at hv
      obtain rfl : v = .int .u64 n := hv
      go_simp
      refine (NN.out w2).mono ?_
      rintro e w3 ⟨p, rfl, hl, hc, hin, hex⟩
      exact hK _ _ hex (by rw [hT]; exact ⟨p, rfl, hl, hc, hin⟩)
    · rw [if_pos (by rfl)]
      intro K hK
      have f := hout 4 (outB_spec (by kernel_rfl))
      exact wp_ld _ w.heap.size kl rfl f (HA.out.ext (Ex.trans (show Ex wr wr.drew from (Below.refl _ _).drew) hx)) (hK _ _ (Ex.refl _) (by rw [hT]; rfl))
    · rw [if_pos (by rfl)]
      intro K hK
      have f := hout 1 (outB_spec (by kernel_rfl))
      exact wp_mv _ rfl (hK _ _ (Ex.refl _) (by rw [hT]; exact f))
    · rw [if_pos (by rfl)]
      intro K hK
      obtain ⟨v, hv, kv⟩ := hdep ⟨2, .data⟩ (by simp) rfl _ rfl
      have qv := kv _ rfl
      rw [hT] at hv
      obtain rfl : v = digV kl := hv
      obtain ⟨u, hu, ku⟩ := hdep ⟨3, .data⟩ (by simp) rfl _ rfl
      have qu := ku _ rfl
      rw [hT] at hu
      obtain rfl : u = .int .u64 n := hu
      go_simp
      refine (IN.out w2).mono ?_
      rintro e w3 ⟨rfl, hex⟩
      exact hK _ _ hex (by rw [hT]; rfl)
    · rw [if_pos (by rfl)]
      intro K hK
      have f := hout 1 (outB_spec (by kernel_rfl))
      exact wp_mv _ rfl (hK _ _ (Ex.refl _) (by rw [hT]; exact f))
    · rw [if_pos (by rfl)]
      intro K hK
      have f := hout 2 (outB_spec (by kernel_rfl))
      exact wp_mv _ rfl (hK _ _ (Ex.refl _) (by rw [hT]; exact f))
    · rw [if_pos (by rfl)]
      intro K hK
      obtain ⟨v, hv, kv⟩ := hdep ⟨6, .data⟩ (by simp) rfl _ rfl
      have qv := kv _ rfl
      rw [hT] at hv
      obtain rfl : v = .int .u8 to.toNat := hv
      have q : a.tmps[19]?.getD undef = .int .u8 to.toNat := by rw [← Array.getD_eq_getD_getElem?]; exact qv
      clear hsz hdep hout kv qv
      go_simp
      have hex : Ex w2 (w2.alloc (.cells #[.int .u8 to.toNat] 5)) := (Below.refl _ _).alloc (Nat.le_refl _) _
      exact hK _ _ hex (by rw [hT]; exact ⟨⟨some ⟨w2.heap.size, 0, none⟩, 1, [to]⟩, rfl, rfl, by have h := lit_pt w2 [to] (0, 0); exact h⟩)
    · rw [if_pos (by rfl)]
      intro K hK
      have f := hout 3 (outB_spec (by kernel_rfl))
      exact wp_mv _ rfl (hK _ _ (Ex.refl _) (by rw [hT]; exact ⟨p, f, hpl, hpi.ext (Ex.trans (show Ex wr wr.drew from (Below.refl _ _).drew) hx)⟩))
    · rw [if_pos (by rfl)]
      intro K hK
      obtain ⟨v, hv, kv⟩ := hdep ⟨4, .data⟩ (by simp) rfl _ rfl
      have qv := kv _ rfl
      rw [hT] at hv
      obtain rfl : v = digV X := hv
      obtain ⟨u, hu, ku⟩ := hdep ⟨5, .data⟩ (by simp) rfl _ rfl
      have qu := ku _ rfl
      rw [hT] at hu
      obtain rfl : u = .int .u64 n := hu
      obtain ⟨x, hx, kx⟩ := hdep ⟨7, .data⟩ (by simp) rfl _ rfl
      have qx := kx _ rfl
      rw [hT] at hx
      obtain ⟨px, rfl, lx, ix⟩ := hx
      obtain ⟨y, hy, ky⟩ := hdep ⟨8, .data⟩ (by simp) rfl _ rfl
      have qy := ky _ rfl
      rw [hT] at hy
      obtain ⟨py, rfl, ly, iy⟩ := hy
      go_simp
      refine (SE.out w2 _ _ lx ly ix iy).mono ?_
      rintro e w3 ⟨p, rfl, hl, hin, hex⟩
      exact hK _ _ hex (by rw [hT]; exact ⟨p, rfl, hl, hin⟩)
    · rw [if_pos (by rfl)]
      intro K hK
      obtain ⟨v, hv, kv⟩ := hdep ⟨1, .data⟩ (by simp) rfl _ rfl
      have qv := kv _ rfl
      rw [hT] at hv
      obtain ⟨pv, rfl, lv, cv, iv⟩ := hv
      obtain ⟨u, hu, ku⟩ := hdep ⟨9, .data⟩ (by simp) rfl _ rfl
      have qu := ku _ rfl
      rw [hT] at hu
      obtain ⟨pu, rfl, lu, iu⟩ := hu
      refine wp_app (.tmp 14) (.tmp 22) rfl pv pu ?_ ?_ iv iu (by rw [cv, lv, lu, HSl.out]; simp [numL]; omega) (by rw [lv, lu, HSl.out]; simp [numL]; omega) ?_
      · simpa [Act.eval, Array.getD_eq_getD_getElem?] using qv
      · simpa [Act.eval, Array.getD_eq_getD_getElem?] using qu
      · intro r w3 hr hin hex
        exact hK _ _ hex (by rw [hT]; exact ⟨r, rfl, by rw [hr, lv, lu], hin⟩)
    · rw [if_pos (by rfl)]
      intro K hK
      obtain ⟨v, hv, kv⟩ := hdep ⟨10, .data⟩ (by simp) rfl _ rfl
      have qv := kv _ rfl
      rw [hT] at hv
      obtain ⟨pv, rfl, lv, iv⟩ := hv
      exact wp_asg2 _ rfl (hK _ _ (Ex.refl _) (by rw [hT]; exact ⟨pv, qv, lv, iv⟩))
  · intro a w2 hx hdef hsz hdone hout
    obtain ⟨sa, hsa, ksa⟩ := hdone 11 _ (by omega) rfl
    have qsa := ksa _ rfl
    rw [hT] at hsa
    obtain ⟨psa, rfl, lsa, isa⟩ := hsa
    clear hdone ksa hT
    have hA := arr_range a.tmps 24 hsz
    change a.tmps = #[a.tmps[0]?.getD undef, a.tmps[1]?.getD undef, a.tmps[2]?.getD undef, a.tmps[3]?.getD undef, a.tmps[4]?.getD undef, a.tmps[5]?.getD undef, a.tmps[6]?.getD undef, a.tmps[7]?.getD undef, a.tmps[8]?.getD undef, a.tmps[9]?.getD undef, a.tmps[10]?.getD undef, a.tmps[11]?.getD undef, a.tmps[12]?.getD undef, a.tmps[13]?.getD undef, a.tmps[14]?.getD undef, a.tmps[15]?.getD undef, a.tmps[16]?.getD undef, a.tmps[17]?.getD undef, a.tmps[18]?.getD undef, a.tmps[19]?.getD undef, a.tmps[20]?.getD undef, a.tmps[21]?.getD undef, a.tmps[22]?.getD undef, a.tmps[23]?.getD undef] at hA
    have e0 := hout 0 (fun i o _ h => outB_spec (by kernel_rfl) i o h)
    have e1 := hout 1 (fun i o _ h => outB_spec (by kernel_rfl) i o h)
    have e2 := hout 2 (fun i o _ h => outB_spec (by kernel_rfl) i o h)
    have e3 := hout 3 (fun i o _ h => outB_spec (by kernel_rfl) i o h)
    have e4 := hout 4 (fun i o _ h => outB_spec (by kernel_rfl) i o h)
    have e5 := hout 5 (fun i o _ h => outB_spec (by kernel_rfl) i o h)
    have e6 := hout 6 (fun i o _ h => outB_spec (by kernel_rfl) i o h)
    have e7 := hout 7 (fun i o _ h => outB_spec (by kernel_rfl) i o h)
    have e10 := hout 10 (fun i o _ h => outB_spec (by kernel_rfl) i o h)
    have e11 := hout 11 (fun i o _ h => outB_spec (by kernel_rfl) i o h)
    have e12 := hout 12 (fun i o _ h => outB_spec (by kernel_rfl) i o h)
    simp only [Array.getD_eq_getD_getElem?, List.getElem?_toArray, List.getElem?_cons_zero, List.getElem?_cons_succ, Option.getD_some] at e0 e1 e2 e3 e4 e5 e6 e7 e10 e11 e12
    rw [e0, e1, e2, e3, e4, e5, e6, e7, e10, e11, e12] at hA
    clear e0 e1 e2 e3 e4 e5 e6 e7 e10 e11 e12 hout
    have hds2 : a.defers = [] := hdef
    have ea : a = ⟨a.tmps, a.defers⟩ := rfl
    have s8 : a.tmps[8]?.getD undef = psa.V := by simpa [Array.getD_eq_getD_getElem?] using qsa
    rw [hA, hds2, s8] at ea
    clear hA hds2 s8 qsa hdef
    generalize a.tmps[13]?.getD undef = y13 at ea
    generalize a.tmps[14]?.getD undef = y14 at ea
    generalize a.tmps[15]?.getD undef = y15 at ea
    generalize a.tmps[16]?.getD undef = y16 at ea
    generalize a.tmps[17]?.getD undef = y17 at ea
    generalize a.tmps[18]?.getD undef = y18 at ea
    generalize a.tmps[19]?.getD undef = y19 at ea
    generalize a.tmps[20]?.getD undef = y20 at ea
    generalize a.tmps[21]?.getD undef = y21 at ea
    generalize a.tmps[22]?.getD undef = y22 at ea
    generalize a.tmps[23]?.getD undef = y23 at ea
    generalize a.tmps[9]?.getD undef = y9 at ea
    clear hsz
    subst ea
    have bx : Below wr.heap.size wr w2 := Below.trans (Below.refl _ _).drew hx
    unfold wpOp
    simp only [List.getElem?_toArray, List.getElem?_cons_zero, List.getElem?_cons_succ]
    rw [if_pos (by rfl)]
    left
    have bw3 := bw.trans (bx.mono bz)
    obtain ⟨rv, hrv⟩ : ∃ v, v = psa.V := ⟨_, rfl⟩
    have HRV := Lib.hid hrv
    rw [← hrv]
    have SL := Lib.hid lsa
    have SI := Lib.hid isa
    clear hrv lsa isa bx hx hpi
    go_simp
    go_wp2_with fail
    go_ret2
    exact ⟨psa, by show Ending.returned (.tuple #[rv, .int .i64 0]) = _; rw [HRV.out], SL.out, SI.out, bw3⟩
set_option maxHeartbeats 4000000 in
set_option maxRecDepth 100000 in
theorem runc_any (kl : List UInt8) (hkll : kl.length = 16) (to : UInt8) (b : Pt) (w : World) (hb : b.In w w.heap.size) (hmx : b.l.length ≤ 9223372036854775807) :
    Calls Try.prog 73 #[digV kl, .int .u8 to.toNat, b.V] w (TupPost (uncL kl to b.l).1 (uncL kl to b.l).2 w) := by
  obtain ⟨cs, hcs⟩ : ∃ cs, cs = (Lib.byteCells kl).toArray := ⟨_, rfl⟩
  have hv : digV kl = .agg cs := by rw [hcs]; rfl
  have HA : Hid (DB (w.alloc (.cells cs 24)) w.heap.size kl) := by rw [hcs]; exact Lib.hid (DB.new rfl hkll)
  have bw : Below w.heap.size w (w.alloc (.cells cs 24)) := (Below.refl _ _).alloc (Nat.le_refl _) _
  obtain ⟨mb, hmb⟩ : ∃ m, m = b.l.length := ⟨_, rfl⟩
  have hbv : b.V = .slice b.ad mb b.cap := by unfold Pt.V; rw [hmb]
  obtain ⟨L, hL⟩ : ∃ L, L = (uncL kl to b.l).1 := ⟨_, rfl⟩
  obtain ⟨E, hE⟩ : ∃ L, L = (uncL kl to b.l).2 := ⟨_, rfl⟩
  obtain ⟨bL, hbL⟩ : ∃ L, L = b.l := ⟨_, rfl⟩
  have HBV := Lib.hid hbv
  have hbi := hb.ext bw
  rw [← hmb] at hmx
  rw [← hbL] at hL hE hmb
  have HMB := Lib.hid hmb.symm
  have bz := bw.size
  rw [← hbL, ← hL, ← hE, hv]
  rw [hbv]
  clear hv hcs hb
  by_cases c1 : mb < 16
  · have hu : uncL kl to bL = ([], 12) := by unfold uncL; rw [if_pos (by rw [← hmb]; exact c1)]
    rw [hu] at hL hE
    subst hL
    subst hE
    clear hu hbL hbv HA hbi
    go_enter Try.func73, Try.ntmps73
    go_wp2_with fail
    go_ret2
    exact ⟨⟨none, 0, []⟩, rfl, rfl, nil_inE _ _, bw⟩
  · by_cases c2 : 8192 < mb
    · have hu : uncL kl to bL = ([], 3) := by unfold uncL; rw [if_neg (by rw [← hmb]; exact c1), if_pos (by rw [← hmb]; exact c2)]
      rw [hu] at hL hE
      subst hL
      subst hE
      clear hu hbL hbv HA hbi
      go_enter Try.func73, Try.ntmps73
      go_wp2_with fail
      go_ret2
      exact ⟨⟨none, 0, []⟩, rfl, rfl, nil_inE _ _, bw⟩
    · have hb1 : 16 ≤ mb := by omega
      have hb2 : mb ≤ 8192 := by omega
      obtain ⟨sd, hsd⟩ : ∃ s : Int, s = (beV (bL.take 8) : Int) := ⟨_, rfl⟩
      have hsb : 0 ≤ sd ∧ sd < 18446744073709551616 := by rw [hsd]; exact beV8 _ (by rw [List.length_take]; omega)
      obtain ⟨X, hX⟩ : ∃ X, X = innerL kl sd := ⟨_, rfl⟩
      have HX := Lib.hid (show X.length = 16 by rw [hX]; exact innerL_len _ _)
      have hXl := HX.out
      have HDL := Lib.hid (show (bL.drop 8).length = mb - 8 by rw [List.length_drop, hmb])
      have hLE : TupPost ((openL X sd [to] (bL.drop 8)).getD []) (if (openL X sd [to] (bL.drop 8)).isSome then 0 else 30) = TupPost L E := by
        have hu : uncL kl to bL = match openL (innerL kl (beV (bL.take 8) : Int)) (beV (bL.take 8) : Int) [to] (bL.drop 8) with
            | none => ([], 30)
            | some t => (t, 0) := by
          unfold uncL
          rw [if_neg (by rw [← hmb]; exact c1), if_neg (by rw [← hmb]; exact c2)]
          cases openL (innerL kl (beV (bL.take 8) : Int)) (beV (bL.take 8) : Int) [to] (bL.drop 8) <;> rfl
        rw [hL, hE, hX, hsd, hu]
        cases openL (innerL kl (beV (bL.take 8) : Int)) (beV (bL.take 8) : Int) [to] (bL.drop 8) <;> rfl
      have IN := Lib.hid (show ∀ W : World, Calls Try.prog 53 #[digV kl, .int .u64 sd] W fun e w' => e = .returned (digV X) ∧ Below W.heap.size W w' from fun W => by have h := rinner_any kl hkll sd hsb.1 hsb.2 W; rw [← hX] at h; exact h)
      have OP := Lib.hid (show ∀ (W : World) (p q : Pt), p.l = [to] → q.l = bL.drop 8 → p.In W W.heap.size → q.In W W.heap.size → Calls Try.prog 72 #[digV X, .int .u64 sd, p.V, q.V] W (TupPost L E W) from fun W p q h1 h2 i1 i2 => by
        have h := ropen_any X hXl sd hsb.1 hsb.2 p q W i1 i2
        rw [h1, h2] at h
        rw [← hLE]
        exact Calls.mono h fun _ _ => OpenPost.tup)
      obtain ⟨a, o, e, ha, hcc⟩ := hbi.read (by rw [← hbL, ← hmb]; omega)
      have hcap := hbi.cap
      rw [← hbL, ← hmb] at hcap
      have hc8 : 8 ≤ b.cap := by omega
      have NO := rseed_any b (by rw [← hbL, ← hmb]; omega) _ hbi
      rw [← hbL, ← hsd] at NO
      have hbe : b.V = .slice (some ⟨a, o, none⟩) mb b.cap := by rw [hbv, e]
      rw [hbe] at NO
      have NO := Lib.hid NO
      clear hbe
      have hbl : b.l = bL := hbL.symm
      have HBE : Hid (b.V = .slice (some ⟨a, o, none⟩) mb b.cap) := Lib.hid (by rw [hbv, e])
      have HBI := Lib.hid hbi
      rw [← hbv, HBE.out]
      have hXl2 := hXl
      clear hcc ha e hLE hX hsd hL hE hbL hbv hbi hmb c1 c2 hsb
      go_enter Try.func73, Try.ntmps73
      go_wp2_with fail
      obtain ⟨wr, hw1⟩ : ∃ w1, w1 = w.alloc (.cells cs 24) := ⟨_, rfl⟩
      rw [← hw1] at HA bw bz NO HBI ⊢
      clear hw1
      refine NO.out.mono ?_
      rintro e w2 ⟨rfl, rfl⟩
      clear NO
      go_wp2_with fail
      rw [← HBE.out]
      have hbi := HBI.out
      generalize wr = wr at *
      obtain ⟨T, hT⟩ : ∃ T : List As3, T = [.is (digV kl), .is (.int .u64 sd), .is (digV X), .is (.int .u64 sd), .is (.int .u8 to.toNat), .pt [to], .pt bL, .pt (bL.drop 8), .tup L E, .pt L, .is (.int .i64 E), .pt L] := ⟨_, rfl⟩
      refine wp_region_flow 12 (tabPhi3 T) (by kernel_rfl) rfl (by kernel_rfl) (by kernel_rfl) (by kernel_rfl) (tabPhi3_stable T) (fitB_spec (by kernel_rfl)) ?_ ?_
      · intro i o hi ho
        have hi' : i = 0 ∨ i = 1 ∨ i = 2 ∨ i = 3 ∨ i = 4 ∨ i = 5 ∨ i = 6 ∨ i = 7 ∨ i = 8 ∨ i = 9 ∨ i = 10 ∨ i = 11 := by omega
        rcases hi' with rfl | rfl | rfl | rfl | rfl | rfl | rfl | rfl | rfl | rfl | rfl | rfl
        all_goals (simp only [List.getElem?_toArray, List.getElem?_cons_zero, List.getElem?_cons_succ, Option.some.injEq] at ho; subst ho; intro a w2 hx hsz hdep hout)
        · rw [if_pos (by rfl)]
          intro K hK
          have f := hout 3 (outB_spec (by kernel_rfl))
          exact wp_ld _ w.heap.size kl rfl f (HA.out.ext (Ex.trans (show Ex wr wr.drew from (Below.refl _ _).drew) hx)) (hK _ _ (Ex.refl _) (by rw [hT]; rfl))
        · rw [if_pos (by rfl)]
          intro K hK
          have f := hout 8 (outB_spec (by kernel_rfl))
          exact wp_mv _ rfl (hK _ _ (Ex.refl _) (by rw [hT]; exact f))
        · rw [if_pos (by rfl)]
          intro K hK
          obtain ⟨v, hv, kv⟩ := hdep ⟨0, .data⟩ (by simp) rfl _ rfl
          have qv := kv _ rfl
          rw [hT] at hv
          obtain rfl : v = digV kl := hv
          obtain ⟨u, hu, ku⟩ := hdep ⟨1, .data⟩ (by simp) rfl _ rfl
          have qu := ku _ rfl
          rw [hT] at hu
          obtain rfl : u = .int .u64 sd := hu
          go_simp
          refine (IN.out w2).mono ?_
          rintro e w3 ⟨rfl, hex⟩
          exact hK _ _ hex (by rw [hT]; rfl)
        · rw [if_pos (by rfl)]
          intro K hK
          have f := hout 8 (outB_spec (by kernel_rfl))
          exact wp_mv _ rfl (hK _ _ (Ex.refl _) (by rw [hT]; exact f))
        · rw [if_pos (by rfl)]
          intro K hK
          have f := hout 1 (outB_spec (by kernel_rfl))
          exact wp_mv _ rfl (hK _ _ (Ex.refl _) (by rw [hT]; exact f))
        · rw [if_pos (by rfl)]
          intro K hK
          obtain ⟨v, hv, kv⟩ := hdep ⟨4, .data⟩ (by simp) rfl _ rfl
          have qv := kv _ rfl
          rw [hT] at hv
          obtain rfl : v = .int .u8 to.toNat := hv
          have q : a.tmps[21]?.getD undef = .int .u8 to.toNat := by rw [← Array.getD_eq_getD_getElem?]; exact qv
          clear hsz hdep hout kv qv
          go_simp
          have hex : Ex w2 (w2.alloc (.cells #[.int .u8 to.toNat] 5)) := (Below.refl _ _).alloc (Nat.le_refl _) _
          exact hK _ _ hex (by rw [hT]; exact ⟨⟨some ⟨w2.heap.size, 0, none⟩, 1, [to]⟩, rfl, rfl, by have h := lit_pt w2 [to] (0, 0); exact h⟩)
        · rw [if_pos (by rfl)]
          intro K hK
          have f := hout 2 (outB_spec (by kernel_rfl))
          exact wp_mv _ rfl (hK _ _ (Ex.refl _) (by rw [hT]; exact ⟨b, f, hbl, hbi.ext (Ex.trans (show Ex wr wr.drew from (Below.refl _ _).drew) hx)⟩))
        · rw [if_pos (by rfl)]
          intro K hK
          obtain ⟨v, hv, kv⟩ := hdep ⟨6, .data⟩ (by simp) rfl _ rfl
          have qv := kv _ rfl
          rw [hT] at hv
          obtain ⟨pv, rfl, lv, iv⟩ := hv
          obtain ⟨a', o', e', ha', hcc⟩ := iv.read (by rw [lv, HMB.out]; omega)
          have hcap := iv.cap
          rw [lv, HMB.out] at hcap
          have q1 : a.tmps[23]?.getD undef = .slice (some ⟨a', o', none⟩) mb pv.cap := by rw [← Array.getD_eq_getD_getElem?, qv]; unfold Pt.V; rw [lv, HMB.out, e']
          have PT : Hid ((Pt.mk (some ⟨a', o' + 8, none⟩) (pv.cap - 8) (bL.drop 8)).In w2 w2.heap.size) := Lib.hid ⟨by show (bL.drop 8).length ≤ pv.cap - 8; rw [HDL.out]; omega, (fun h => by cases h), fun _ => ⟨a', o' + 8, rfl, ha', fun i hi => by
          have hi2 : i < (bL.drop 8).length := hi
          rw [HDL.out] at hi2
          rw [Nat.add_assoc, hcc (8 + i) (by rw [lv, HMB.out]; omega), lv]
          simp [List.getD, List.getElem?_drop]⟩⟩
          have hne : ¬ pv.cap = 8 := by omega
          have h8c : 8 ≤ mb := by omega
          have h8d : 8 ≤ pv.cap := by omega
          clear hcc iv lv hsz hdep hout qv kv
          go_simp
          rw [if_pos (show (8 : Int) ≤ (mb : Int) by omega)]
          exact hK _ _ (Ex.refl _) (by rw [hT]; exact ⟨⟨some ⟨a', o' + 8, none⟩, pv.cap - 8, bL.drop 8⟩, (by unfold Pt.V; simp only [HDL.out]), rfl, PT.out⟩)
        · rw [if_pos (by rfl)]
          intro K hK
          obtain ⟨v, hv, kv⟩ := hdep ⟨2, .data⟩ (by simp) rfl _ rfl
          have qv := kv _ rfl
          rw [hT] at hv
          obtain rfl : v = digV X := hv
          obtain ⟨u, hu, ku⟩ := hdep ⟨3, .data⟩ (by simp) rfl _ rfl
          have qu := ku _ rfl
          rw [hT] at hu
          obtain rfl : u = .int .u64 sd := hu
          obtain ⟨x, hx, kx⟩ := hdep ⟨5, .data⟩ (by simp) rfl _ rfl
          have qx := kx _ rfl
          rw [hT] at hx
          obtain ⟨px, rfl, lx, ix⟩ := hx
          obtain ⟨y, hy, ky⟩ := hdep ⟨7, .data⟩ (by simp) rfl _ rfl
          have qy := ky _ rfl
          rw [hT] at hy
          obtain ⟨py, rfl, ly, iy⟩ := hy
          go_simp
          refine (OP.out w2 _ _ lx ly ix iy).mono ?_
          rintro e w3 ⟨p, rfl, hl, hin, hex⟩
          exact hK _ _ hex (by rw [hT]; exact ⟨p, rfl, hl, hin⟩)
        · rw [if_pos (by rfl)]
          intro K hK
          obtain ⟨v, hv, kv⟩ := hdep ⟨8, .data⟩ (by simp) rfl _ rfl
          have qv := kv _ rfl
          rw [hT] at hv
          obtain ⟨pv, rfl, lv, iv⟩ := hv
          have q : a.tmps[25]?.getD undef = .tuple #[pv.V, .int .i64 E] := by rw [← Array.getD_eq_getD_getElem?]; exact qv
          obtain ⟨vx, hvx⟩ : ∃ v, v = pv.V := ⟨_, rfl⟩
          rw [← hvx] at q
          have HVX := Lib.hid hvx
          clear hsz hdep hout qv kv hvx
          go_simp
          exact hK _ _ (Ex.refl _) (by rw [hT]; exact ⟨pv, HVX.out, lv, iv⟩)
        · rw [if_pos (by rfl)]
          intro K hK
          obtain ⟨v, hv, kv⟩ := hdep ⟨8, .data⟩ (by simp) rfl _ rfl
          have qv := kv _ rfl
          rw [hT] at hv
          obtain ⟨pv, rfl, lv, iv⟩ := hv
          have q : a.tmps[25]?.getD undef = .tuple #[pv.V, .int .i64 E] := by rw [← Array.getD_eq_getD_getElem?]; exact qv
          obtain ⟨vx, hvx⟩ : ∃ v, v = pv.V := ⟨_, rfl⟩
          rw [← hvx] at q
          have HVX := Lib.hid hvx
          clear hsz hdep hout qv kv hvx
          go_simp
          exact hK _ _ (Ex.refl _) (by rw [hT]; rfl)
        · rw [if_pos (by rfl)]
          intro K hK
          obtain ⟨v, hv, kv⟩ := hdep ⟨9, .data⟩ (by simp) rfl _ rfl
          have qv := kv _ rfl
          rw [hT] at hv
          obtain ⟨pv, rfl, lv, iv⟩ := hv
          exact wp_asg2 _ rfl (hK _ _ (Ex.refl _) (by rw [hT]; exact ⟨pv, qv, lv, iv⟩))
      · intro a w2 hx hdef hsz hdone hout
        obtain ⟨sa, hsa, ksa⟩ := hdone 11 _ (by omega) rfl
        have qsa := ksa _ rfl
        rw [hT] at hsa
        obtain ⟨psa, rfl, lsa, isa⟩ := hsa
        obtain ⟨v, hv, kv⟩ := hdone 10 _ (by omega) rfl
        have qv := kv _ rfl
        rw [hT] at hv
        obtain rfl : v = .int .i64 E := hv
        clear hdone ksa kv hT
        have hA := arr_range a.tmps 28 hsz
        change a.tmps = #[a.tmps[0]?.getD undef, a.tmps[1]?.getD undef, a.tmps[2]?.getD undef, a.tmps[3]?.getD undef, a.tmps[4]?.getD undef, a.tmps[5]?.getD undef, a.tmps[6]?.getD undef, a.tmps[7]?.getD undef, a.tmps[8]?.getD undef, a.tmps[9]?.getD undef, a.tmps[10]?.getD undef, a.tmps[11]?.getD undef, a.tmps[12]?.getD undef, a.tmps[13]?.getD undef, a.tmps[14]?.getD undef, a.tmps[15]?.getD undef, a.tmps[16]?.getD undef, a.tmps[17]?.getD undef, a.tmps[18]?.getD undef, a.tmps[19]?.getD undef, a.tmps[20]?.getD undef, a.tmps[21]?.getD undef, a.tmps[22]?.getD undef, a.tmps[23]?.getD undef, a.tmps[24]?.getD undef, a.tmps[25]?.getD undef, a.tmps[26]?.getD undef, a.tmps[27]?.getD undef] at hA
        have e0 := hout 0 (fun i o _ h => outB_spec (by kernel_rfl) i o h)
        have e1 := hout 1 (fun i o _ h => outB_spec (by kernel_rfl) i o h)
        have e2 := hout 2 (fun i o _ h => outB_spec (by kernel_rfl) i o h)
        have e3 := hout 3 (fun i o _ h => outB_spec (by kernel_rfl) i o h)
        have e4 := hout 4 (fun i o _ h => outB_spec (by kernel_rfl) i o h)
        have e5 := hout 5 (fun i o _ h => outB_spec (by kernel_rfl) i o h)
        have e8 := hout 8 (fun i o _ h => outB_spec (by kernel_rfl) i o h)
        have e9 := hout 9 (fun i o _ h => outB_spec (by kernel_rfl) i o h)
        have e10 := hout 10 (fun i o _ h => outB_spec (by kernel_rfl) i o h)
        have e11 := hout 11 (fun i o _ h => outB_spec (by kernel_rfl) i o h)
        have e12 := hout 12 (fun i o _ h => outB_spec (by kernel_rfl) i o h)
        have e13 := hout 13 (fun i o _ h => outB_spec (by kernel_rfl) i o h)
        have e14 := hout 14 (fun i o _ h => outB_spec (by kernel_rfl) i o h)
        have e15 := hout 15 (fun i o _ h => outB_spec (by kernel_rfl) i o h)
        have e16 := hout 16 (fun i o _ h => outB_spec (by kernel_rfl) i o h)
        simp only [Array.getD_eq_getD_getElem?, List.getElem?_toArray, List.getElem?_cons_zero, List.getElem?_cons_succ, Option.getD_some] at e0 e1 e2 e3 e4 e5 e8 e9 e10 e11 e12 e13 e14 e15 e16
        rw [e0, e1, e2, e3, e4, e5, e8, e9, e10, e11, e12, e13, e14, e15, e16] at hA
        clear e0 e1 e2 e3 e4 e5 e8 e9 e10 e11 e12 e13 e14 e15 e16 hout
        have hds2 : a.defers = [] := hdef
        have ea : a = ⟨a.tmps, a.defers⟩ := rfl
        have s6 : a.tmps[6]?.getD undef = psa.V := by simpa [Array.getD_eq_getD_getElem?] using qsa
        have s27 : a.tmps[27]?.getD undef = .int .i64 E := by simpa [Array.getD_eq_getD_getElem?] using qv
        rw [hA, hds2, s6, s27] at ea
        clear hA hds2 s6 qsa s27 qv hdef
        generalize a.tmps[17]?.getD undef = y17 at ea
        generalize a.tmps[18]?.getD undef = y18 at ea
        generalize a.tmps[19]?.getD undef = y19 at ea
        generalize a.tmps[20]?.getD undef = y20 at ea
        generalize a.tmps[21]?.getD undef = y21 at ea
        generalize a.tmps[22]?.getD undef = y22 at ea
        generalize a.tmps[23]?.getD undef = y23 at ea
        generalize a.tmps[24]?.getD undef = y24 at ea
        generalize a.tmps[25]?.getD undef = y25 at ea
        generalize a.tmps[26]?.getD undef = y26 at ea
        generalize a.tmps[7]?.getD undef = y7 at ea
        clear hsz
        subst ea
        have bx : Below wr.heap.size wr w2 := Below.trans (Below.refl _ _).drew hx
        unfold wpOp
        simp only [List.getElem?_toArray, List.getElem?_cons_zero, List.getElem?_cons_succ]
        rw [if_pos (by rfl)]
        left
        have bw3 := bw.trans (bx.mono bz)
        obtain ⟨rv, hrv⟩ : ∃ v, v = psa.V := ⟨_, rfl⟩
        have HRV := Lib.hid hrv
        rw [← hrv]
        have SL := Lib.hid lsa
        have SI := Lib.hid isa
        clear hrv lsa isa bx hx hbi HBI
        go_simp
        go_wp2_with fail
        go_ret2
        exact ⟨psa, by show Ending.returned (.tuple #[rv, .int .i64 E]) = _; rw [HRV.out], SL.out, SI.out, bw3⟩
set_option maxHeartbeats 4000000 in
set_option maxRecDepth 100000 in
theorem l5open_any (kl : List UInt8) (hk : kl.length = 16) (to : UInt8) (b : Pt) (w : World) (hb : b.In w w.heap.size) (hm : b.l.length ≤ 9223372036854775807) :
    Calls Try.prog 50 #[digV kl, .int .u8 to.toNat, b.V] w fun e w' => e = .returned (.bool true) ∧ Below w.heap.size w w' := by
  obtain ⟨cs, hcs⟩ : ∃ cs, cs = (Lib.byteCells kl).toArray := ⟨_, rfl⟩
  have hv : digV kl = .agg cs := by rw [hcs]; rfl
  have A1 : Hid (DB (w.alloc (.cells cs 24)) w.heap.size kl) := by rw [hcs]; exact Lib.hid (DB.new rfl hk)
  have bw : Below w.heap.size w (w.alloc (.cells cs 24)) := (Below.refl _ _).alloc (Nat.le_refl _) _
  obtain ⟨L, hL⟩ : ∃ L, L = (uncL kl to b.l).1 := ⟨_, rfl⟩
  obtain ⟨E, hE⟩ : ∃ L, L = (uncL kl to b.l).2 := ⟨_, rfl⟩
  obtain ⟨bv, hbv⟩ : ∃ v, v = b.V := ⟨_, rfl⟩
  have OC := Lib.hid (fun (W : World) (h2 : b.In W W.heap.size) => by have h := eopen_any kl hk to b W h2 hm; rw [← hL, ← hE, ← hbv] at h; exact h)
  have RC := Lib.hid (fun (W : World) (h2 : b.In W W.heap.size) => by have h := runc_any kl hk to b W h2 hm; rw [← hL, ← hE, ← hbv] at h; exact h)
  have HB := Lib.hid (hb.ext bw)
  rw [hv, ← hbv]
  obtain ⟨lt, hlt⟩ : ∃ x, x = L.length := ⟨_, rfl⟩
  have HT := Lib.hid hlt.symm
  clear hv hcs hb hk hL hE hbv hm hlt
  go_enter Try.func50, Try.ntmps50
  go_wp2_with ((with_reducible refine at_any ?_ ?_); (focus go_simp); (refine fun K hK => wp_ld _ _ kl rfl rfl A1.out (hK _ _ ?_)))
  obtain ⟨w1, hw1⟩ : ∃ w1, w1 = w.alloc (.cells cs 24) := ⟨_, rfl⟩
  rw [← hw1] at A1 bw HB ⊢
  clear hw1
  refine (OC.out w1 HB.out).mono ?_
  rintro e w2 ⟨r, rfl, rl, ri, x2⟩
  have hrv : r.V = .slice r.ad lt r.cap := by unfold Pt.V; rw [rl, HT.out]
  rw [hrv]
  have RL := Lib.hid rl
  have RI := Lib.hid ri
  have A2 := Lib.hid (A1.out.ext x2)
  have R2 := Lib.hid (RC.out w2 (HB.out.ext x2))
  have bw2 : Below w.heap.size w w2 := bw.trans (x2.mono bw.size)
  clear A1 OC RC HB bw x2 hrv rl ri
  go_wp2_with ((with_reducible refine at_any ?_ ?_); (focus go_simp); (refine fun K hK => wp_ld _ _ kl rfl rfl A2.out (hK _ _ ?_)))
  refine R2.out.mono ?_
  rintro e w3 ⟨q, rfl, ql, qi, x3⟩
  have hqv : q.V = .slice q.ad lt q.cap := by unfold Pt.V; rw [ql, HT.out]
  rw [hqv]
  have bw3 : Below w.heap.size w w3 := bw2.trans (x3.mono bw2.size)
  have cv := pt_conv r w3 (RI.out.ext x3)
  rw [RL.out, HT.out] at cv
  have cv2 := pt_conv q w3 qi
  rw [ql, HT.out] at cv2
  generalize strL L = s1 at cv cv2
  clear R2 A2 bw2 x3 hqv ql qi RL RI HT
  go_wp2_with fail
  go_ret
  exact ⟨rfl, bw3⟩
end Go.Proofs.Ytkneeocicbadjaa
