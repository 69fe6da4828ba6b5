/- walks: VeilTells -/
import Derived.Test.YtkneeocicbadjaaVeH
import Derived.Test.YtkneeocicbadjaaVeE
import Derived.Test.YtkneeocicbadjaaBlK
namespace Go.Proofs.Ytkneeocicbadjaa
open Go.RowKit
theorem wp_app_own1 {o : Oper} {a : Act} {w : World} {K : Act → World → Prop} {Q : Exit → Act → World → Prop} (s x : Operand)
    (hop : o.op = .call { callee := .builtin .append, args := #[s, x], argTypes := #[22, 22] }) (B : Nat) (v : Value) (l : List UInt8) (q : Pt) (k : Nat) (hs : a.eval s = v) (hx : a.eval x = q.V)
    (ow : ownU w B v l) (hq : q.In w w.heap.size) (hB : B ≤ w.heap.size) (hk : l.length + q.l.length = k) (hk0 : 0 < k) (hN : k ≤ 100000000000000)
    (h : ∀ g c w', B ≤ g → g < w'.heap.size → k ≤ c → ownU w' B (.slice (some ⟨g, 0, none⟩) k c) (l ++ q.l) → Below B w w' → K (a.put o.dst (.slice (some ⟨g, 0, none⟩) k c)) w') : o.wp Try.prog a w K Q := by
  refine wp_app_own0 s x hop B v l q hs hx ow hq hB (by omega) fun v' w' o' b' => ?_
  obtain ⟨g, c, e, h1, h2, h3⟩ := own_slice o' (by rw [List.length_append]; omega)
  rw [List.length_append, hk] at e h3
  subst e
  exact h g c w' h1 h2 h3 o' b'
set_option maxHeartbeats 8000000 in
set_option maxRecDepth 100000 in
theorem vtells_any (kl ll : List UInt8) (hkll : kl.length = 16) (hlll : ll.length = 16) (n m : Int) (n0 : 0 ≤ n) (n1 : n < 18446744073709551616) (m0 : 0 ≤ m) (m1 : m < 18446744073709551616) (a0 t0 b0 : Pt) (c : Int) (hc : -9223372036854775808 ≤ c ∧ c ≤ 9223372036854775807) (tu : UInt8)
    (w : World) (ha0 : a0.In w w.heap.size) (ht0 : t0.In w w.heap.size) (hb0 : b0.In w w.heap.size) (hma : a0.l.length ≤ 9223372036854775807) (hmt : t0.l.length ≤ 9223372036854775807) (hmb : b0.l.length ≤ 9223372036854775807) :
    Calls Try.prog 13 #[digV kl, digV ll, .int .u64 n, .int .u64 m, a0.V, t0.V, b0.V, .int .i64 c, .int .u8 tu.toNat] w fun e w' => e = .returned (.bool true) ∧ Below w.heap.size w w' := by
  obtain ⟨cs, hcs⟩ : ∃ cs, cs = (Lib.byteCells kl).toArray := ⟨_, rfl⟩
  obtain ⟨ds, hds⟩ : ∃ ds, ds = (Lib.byteCells ll).toArray := ⟨_, rfl⟩
  have hv : digV kl = .agg cs := by rw [hcs]; rfl
  have hv2 : digV ll = .agg ds := by rw [hds]; rfl
  have x1 : Ex (w.alloc (.cells cs 24)) ((w.alloc (.cells cs 24)).alloc (.cells ds 24)) := (Below.refl _ _).alloc (Nat.le_refl _) _
  have HA : Hid (DB ((w.alloc (.cells cs 24)).alloc (.cells ds 24)) w.heap.size kl) := by rw [hcs]; exact Lib.hid ((DB.new rfl hkll).ext (by rw [← hcs]; exact x1))
  have HB : Hid (DB ((w.alloc (.cells cs 24)).alloc (.cells ds 24)) (w.heap.size + 1) ll) := by rw [hds]; exact Lib.hid (DB.new (by simp) hlll)
  have bw : Below w.heap.size w ((w.alloc (.cells cs 24)).alloc (.cells ds 24)) := ((Below.refl _ _).alloc (Nat.le_refl _) _).alloc (by simp) _
  have bz : w.heap.size + 2 ≤ ((w.alloc (.cells cs 24)).alloc (.cells ds 24)).heap.size := by simp
  obtain ⟨A, hA⟩ : ∃ A, A = a0.l.take 60 := ⟨_, rfl⟩
  obtain ⟨TX, hTX⟩ : ∃ A, A = t0.l.take 150 := ⟨_, rfl⟩
  obtain ⟨BB, hBB⟩ : ∃ A, A = b0.l.take 80 := ⟨_, rfl⟩
  have hAl : A.length ≤ 60 := by rw [hA, List.length_take]; omega
  have hTl : TX.length ≤ 150 := by rw [hTX, List.length_take]; omega
  obtain ⟨lt, hlt⟩ : ∃ x, x = TX.length := ⟨_, rfl⟩
  obtain ⟨S, hS⟩ : ∃ S, S = sealL kl n A TX := ⟨_, rfl⟩
  obtain ⟨ls, hls⟩ : ∃ x, x = lt + 8 := ⟨_, rfl⟩
  obtain ⟨LR, hLR⟩ : ∃ x, x = TX ++ List.replicate 80 165 := ⟨_, rfl⟩
  obtain ⟨nR, hnR⟩ : ∃ x, x = lt + 80 := ⟨_, rfl⟩
  have HLR := Lib.hid (show LR.length = nR by rw [hLR, padX_len, ← hlt, hnR])
  have HTK := Lib.hid (show LR.take lt = TX by rw [hLR, hlt, List.take_left])
  have HLRd := Lib.hid hLR
  have HTl := Lib.hid hlt.symm
  have HLE := Lib.hid (show lt ≤ nR by omega)
  have HSl := Lib.hid (show S.length = ls by rw [hS, sealL_len, hls, hlt])
  have hlb : lt ≤ 150 := by omega
  have hls0 : 0 < ls := by omega
  have hlsb : ls ≤ 158 := by omega
  have CS := Lib.hid (show ∀ (W : World) (p q : Pt), p.l = A → q.l = TX → p.In W W.heap.size → q.In W W.heap.size → Calls Try.prog 43 #[digV kl, .int .u64 n, p.V, q.V] W (PtPost S W) from fun W p q h1 h2 i1 i2 => by
    have h := seal_any kl hkll n n0 n1 p q W i1 i2 (by rw [h1]; omega) (by rw [h2]; omega)
    rw [h1, h2, ← hS] at h
    exact h)
  have CR := Lib.hid (show ∀ (W : World) (p q : Pt), p.l = A → q.l = TX → p.In W W.heap.size → q.In W W.heap.size → Calls Try.prog 44 #[digV kl, .int .u64 n, p.V, q.V] W (PtPost S W) from fun W p q h1 h2 i1 i2 => by
    have h := rseal_any kl hkll n n0 n1 p q W i1 i2 (by rw [h1]; omega) (by rw [h2]; omega)
    rw [h1, h2, ← hS] at h
    exact h)
  have IN := Lib.hid (show ∀ (W : World) (p q : Pt), p.l = LR → q.l = TX → p.In W W.heap.size → q.In W W.heap.size → Calls Try.prog 35 #[p.V, q.V, .int .u8 165] W fun e w' => e = .returned (.bool true) ∧ Below W.heap.size W w' from fun W p q h1 h2 i1 i2 =>
    intact_any p q 165 W i1 i2 (by rw [h2, HTl.out]; omega) (by rw [h1, h2]; exact HLRd.out))
  have C1 := Lib.hid (cut_any a0 60 (by omega) _ (ha0.ext bw) hma)
  have C2 := Lib.hid (cut_any t0 150 (by omega) _ (ht0.ext bw) hmt)
  have C3 := Lib.hid (cut_any b0 80 (by omega) _ (hb0.ext bw) hmb)
  rw [← hA] at C1
  rw [← hTX] at C2
  rw [← hBB] at C3
  obtain ⟨av, hav⟩ : ∃ v, v = a0.V := ⟨_, rfl⟩
  obtain ⟨tv, htv⟩ : ∃ v, v = t0.V := ⟨_, rfl⟩
  obtain ⟨bv, hbv⟩ : ∃ v, v = b0.V := ⟨_, rfl⟩
  rw [← hav] at C1
  rw [← htv] at C2
  rw [← hbv] at C3
  have HK := Lib.hid hkll
  have HL := Lib.hid hlll
  rw [hv, hv2, ← hav, ← htv, ← hbv]
  clear hv hv2 hcs hds hA hTX hBB hAl hTl hlt hS hls hLR hnR hav htv hbv ha0 ht0 hb0 hma hmt hmb x1 hkll hlll
  go_enter Try.func13, Try.ntmps13
  go_wp2_with fail
  obtain ⟨wr, hw1⟩ : ∃ w1, w1 = (w.alloc (.cells cs 24)).alloc (.cells ds 24) := ⟨_, rfl⟩
  rw [← hw1] at HA HB bw bz C1 C2 C3 ⊢
  clear hw1
  refine C1.out.mono ?_
  rintro e w2 ⟨⟨pa, rfl, hal, hai⟩, rfl⟩
  obtain ⟨paV, hpaV⟩ : ∃ v, v = pa.V := ⟨_, rfl⟩
  rw [← hpaV]
  have HPA := Lib.hid hpaV
  have AL := Lib.hid hal
  have AI := Lib.hid hai
  clear hal hai hpaV C1
  go_wp2_with fail
  refine C2.out.mono ?_
  rintro e w3 ⟨⟨pt, rfl, htl, hti⟩, rfl⟩
  have RO := roomy_any pt 165 w3 hti (by rw [htl, HTl.out]; omega)
  rw [htl, show ((165 : UInt8).toNat : Int) = 165 from rfl, ← HLRd.out] at RO
  obtain ⟨ptV, hptV⟩ : ∃ v, v = pt.V := ⟨_, rfl⟩
  rw [← hptV] at RO ⊢
  have RO := Lib.hid RO
  have HPT := Lib.hid hptV
  have TL := Lib.hid htl
  have TI := Lib.hid hti
  clear htl hti hptV C2
  go_wp2_with fail
  refine C3.out.mono ?_
  rintro e w4 ⟨⟨pb, rfl, hbl, hbi⟩, rfl⟩
  obtain ⟨pbV, hpbV⟩ : ∃ v, v = pb.V := ⟨_, rfl⟩
  rw [← hpbV]
  have HPB := Lib.hid hpbV
  have BI := Lib.hid hbi
  clear hbl hbi hpbV C3
  go_wp2_with fail
  refine RO.out.mono ?_
  rintro e wr ⟨pr, rfl, hrl, hri, xr⟩
  have HA := Lib.hid (HA.out.ext xr)
  have HB := Lib.hid (HB.out.ext xr)
  have hai := AI.out.ext xr
  have hti := TI.out.ext xr
  have BI := Lib.hid (BI.out.ext xr)
  have hal := AL.out
  have htl := TL.out
  have bw := bw.trans (xr.mono bw.size)
  have bz : w.heap.size + 2 ≤ wr.heap.size := by have := xr.size; omega
  obtain ⟨prV, hprV⟩ : ∃ v, v = pr.V := ⟨_, rfl⟩
  rw [← hprV]
  have HPR := Lib.hid hprV
  clear hprV xr RO AI TI
  go_wp2_with fail
  rw [HPA.out, HPT.out, HPR.out]
  obtain ⟨T, hT⟩ : ∃ T : List As, T = [.is (digV kl), .is (.int .u64 n), .pt A, .pt LR, .pt TX, .is (.int .i64 (lt : Int)), .pt TX, .pt S] := ⟨_, rfl⟩
  refine wp_region_flow 8 (tabPhi T) (by kernel_rfl) rfl (by kernel_rfl) (by kernel_rfl) (by kernel_rfl) (tabPhi_stable T) (fitB_spec (by kernel_rfl)) ?_ ?_
  · intro i o hi ho
    have hi' : i = 0 ∨ i = 1 ∨ i = 2 ∨ i = 3 ∨ i = 4 ∨ i = 5 ∨ i = 6 ∨ i = 7 := by omega
    rcases hi' with rfl | rfl | rfl | rfl | rfl | rfl | rfl | rfl
    all_goals (simp only [List.getElem?_toArray, List.getElem?_cons_zero, List.getElem?_cons_succ, Option.some.injEq] at ho; subst ho; intro a w2 hx hsz hdep hout)
    · rw [if_pos (by rfl)]
      intro K hK
      have f := hout 9 (outB_spec (by kernel_rfl))
      exact wp_ld _ w.heap.size kl rfl f (HA.out.ext (Ex.trans (show Ex wr wr.drew from (Below.refl _ _).drew) hx)) (hK _ _ (Ex.refl _) (by rw [hT]; rfl))
    · rw [if_pos (by rfl)]
      intro K hK
      have f := hout 2 (outB_spec (by kernel_rfl))
      exact wp_mv _ rfl (hK _ _ (Ex.refl _) (by rw [hT]; exact f))
    · rw [if_pos (by rfl)]
      intro K hK
      have f := hout 4 (outB_spec (by kernel_rfl))
      exact wp_mv _ rfl (hK _ _ (Ex.refl _) (by rw [hT]; exact ⟨pa, f, hal, hai.ext (Ex.trans (show Ex wr wr.drew from (Below.refl _ _).drew) hx)⟩))
    · rw [if_pos (by rfl)]
      intro K hK
      have f := hout 19 (outB_spec (by kernel_rfl))
      exact wp_mv _ rfl (hK _ _ (Ex.refl _) (by rw [hT]; exact ⟨pr, f, hrl, hri.ext (Ex.trans (show Ex wr wr.drew from (Below.refl _ _).drew) hx)⟩))
    · rw [if_pos (by rfl)]
      intro K hK
      have f := hout 5 (outB_spec (by kernel_rfl))
      exact wp_mv _ rfl (hK _ _ (Ex.refl _) (by rw [hT]; exact ⟨pt, f, htl, hti.ext (Ex.trans (show Ex wr wr.drew from (Below.refl _ _).drew) hx)⟩))
    · rw [if_pos (by rfl)]
      intro K hK
      obtain ⟨v, hv, kv⟩ := hdep ⟨4, .data⟩ (by simp) rfl _ rfl
      have qv := kv _ rfl
      rw [hT] at hv
      obtain ⟨pv, rfl, lv, iv⟩ := hv
      have q : a.tmps[34]?.getD undef = .slice pv.ad lt pv.cap := by rw [← Array.getD_eq_getD_getElem?, qv]; unfold Pt.V; rw [lv, HTl.out]
      clear hsz hdep hout qv kv lv
      go_simp
      exact hK _ _ (Ex.refl _) (by rw [hT]; rfl)
    · rw [if_pos (by rfl)]
      intro K hK
      obtain ⟨v, hv, kv⟩ := hdep ⟨3, .data⟩ (by simp) rfl _ rfl
      have qv := kv _ rfl
      rw [hT] at hv
      obtain ⟨pv, rfl, lv, iv⟩ := hv
      obtain ⟨u, hu, ku⟩ := hdep ⟨5, .data⟩ (by simp) rfl _ rfl
      have qu := ku _ rfl
      rw [hT] at hu
      obtain rfl : u = .int .i64 (lt : Int) := hu
      have q1 : a.tmps[33]?.getD undef = .slice pv.ad nR pv.cap := by rw [← Array.getD_eq_getD_getElem?, qv]; unfold Pt.V; rw [lv, HLR.out]
      have q2 : a.tmps[35]?.getD undef = .int .i64 (lt : Int) := by rw [← Array.getD_eq_getD_getElem?]; exact qu
      have hc1 : lt ≤ pv.cap := by have := iv.cap; rw [lv, HLR.out] at this; have := HLE.out; omega
      have PT := Lib.hid (pt_takeV pv lt w2 iv (by rw [lv, HLR.out]; exact HLE.out))
      rw [lv, HTK.out] at PT
      clear hsz hdep hout qv kv qu ku lv
      go_simp
      exact hK _ _ (Ex.refl _) (by rw [hT]; exact ⟨_, (by unfold Pt.V; rw [HTl.out]), rfl, PT.out⟩)
    · rw [if_pos (by rfl)]
      intro K hK
      obtain ⟨v, hv, kv⟩ := hdep ⟨0, .data⟩ (by simp) rfl _ rfl
      have qv := kv _ rfl
      rw [hT] at hv
      obtain rfl : v = digV kl := hv
      obtain ⟨u, hu, ku⟩ := hdep ⟨1, .data⟩ (by simp) rfl _ rfl
      have qu := ku _ rfl
      rw [hT] at hu
      obtain rfl : u = .int .u64 n := hu
      obtain ⟨x, hx, kx⟩ := hdep ⟨2, .data⟩ (by simp) rfl _ rfl
      have qx := kx _ rfl
      rw [hT] at hx
      obtain ⟨px, rfl, lx, ix⟩ := hx
      obtain ⟨y, hy, ky⟩ := hdep ⟨6, .data⟩ (by simp) rfl _ rfl
      have qy := ky _ rfl
      rw [hT] at hy
      obtain ⟨py, rfl, ly, iy⟩ := hy
      go_simp
      refine (CS.out w2 _ _ lx ly ix iy).mono ?_
      rintro e w3 ⟨p, rfl, hl, hin, hex⟩
      exact hK _ _ hex (by rw [hT]; exact ⟨p, rfl, hl, hin⟩)
  · intro a w2 hx hdef hsz hdone hout
    obtain ⟨sa, hsa, ksa⟩ := hdone 7 _ (by omega) rfl
    have qsa := ksa _ rfl
    rw [hT] at hsa
    obtain ⟨psa, rfl, lsa, isa⟩ := hsa
    clear hdone ksa hT
    have hA := arr_range a.tmps 115 hsz
    change a.tmps = #[a.tmps[0]?.getD undef, a.tmps[1]?.getD undef, a.tmps[2]?.getD undef, a.tmps[3]?.getD undef, a.tmps[4]?.getD undef, a.tmps[5]?.getD undef, a.tmps[6]?.getD undef, a.tmps[7]?.getD undef, a.tmps[8]?.getD undef, a.tmps[9]?.getD undef, a.tmps[10]?.getD undef, a.tmps[11]?.getD undef, a.tmps[12]?.getD undef, a.tmps[13]?.getD undef, a.tmps[14]?.getD undef, a.tmps[15]?.getD undef, a.tmps[16]?.getD undef, a.tmps[17]?.getD undef, a.tmps[18]?.getD undef, a.tmps[19]?.getD undef, a.tmps[20]?.getD undef, a.tmps[21]?.getD undef, a.tmps[22]?.getD undef, a.tmps[23]?.getD undef, a.tmps[24]?.getD undef, a.tmps[25]?.getD undef, a.tmps[26]?.getD undef, a.tmps[27]?.getD undef, a.tmps[28]?.getD undef, a.tmps[29]?.getD undef, a.tmps[30]?.getD undef, a.tmps[31]?.getD undef, a.tmps[32]?.getD undef, a.tmps[33]?.getD undef, a.tmps[34]?.getD undef, a.tmps[35]?.getD undef, a.tmps[36]?.getD undef, a.tmps[37]?.getD undef, a.tmps[38]?.getD undef, a.tmps[39]?.getD undef, a.tmps[40]?.getD undef, a.tmps[41]?.getD undef, a.tmps[42]?.getD undef, a.tmps[43]?.getD undef, a.tmps[44]?.getD undef, a.tmps[45]?.getD undef, a.tmps[46]?.getD undef, a.tmps[47]?.getD undef, a.tmps[48]?.getD undef, a.tmps[49]?.getD undef, a.tmps[50]?.getD undef, a.tmps[51]?.getD undef, a.tmps[52]?.getD undef, a.tmps[53]?.getD undef, a.tmps[54]?.getD undef, a.tmps[55]?.getD undef, a.tmps[56]?.getD undef, a.tmps[57]?.getD undef, a.tmps[58]?.getD undef, a.tmps[59]?.getD undef, a.tmps[60]?.getD undef, a.tmps[61]?.getD undef, a.tmps[62]?.getD undef, a.tmps[63]?.getD undef, a.tmps[64]?.getD undef, a.tmps[65]?.getD undef, a.tmps[66]?.getD undef, a.tmps[67]?.getD undef, a.tmps[68]?.getD undef, a.tmps[69]?.getD undef, a.tmps[70]?.getD undef, a.tmps[71]?.getD undef, a.tmps[72]?.getD undef, a.tmps[73]?.getD undef, a.tmps[74]?.getD undef, a.tmps[75]?.getD undef, a.tmps[76]?.getD undef, a.tmps[77]?.getD undef, a.tmps[78]?.getD undef, a.tmps[79]?.getD undef, a.tmps[80]?.getD undef, a.tmps[81]?.getD undef, a.tmps[82]?.getD undef, a.tmps[83]?.getD undef, a.tmps[84]?.getD undef, a.tmps[85]?.getD undef, a.tmps[86]?.getD undef, a.tmps[87]?.getD undef, a.tmps[88]?.getD undef, a.tmps[89]?.getD undef, a.tmps[90]?.getD undef, a.tmps[91]?.getD undef, a.tmps[92]?.getD undef, a.tmps[93]?.getD undef, a.tmps[94]?.getD undef, a.tmps[95]?.getD undef, a.tmps[96]?.getD undef, a.tmps[97]?.getD undef, a.tmps[98]?.getD undef, a.tmps[99]?.getD undef, a.tmps[100]?.getD undef, a.tmps[101]?.getD undef, a.tmps[102]?.getD undef, a.tmps[103]?.getD undef, a.tmps[104]?.getD undef, a.tmps[105]?.getD undef, a.tmps[106]?.getD undef, a.tmps[107]?.getD undef, a.tmps[108]?.getD undef, a.tmps[109]?.getD undef, a.tmps[110]?.getD undef, a.tmps[111]?.getD undef, a.tmps[112]?.getD undef, a.tmps[113]?.getD undef, a.tmps[114]?.getD undef] at hA
    have e0 := hout 0 (fun i o _ h => outB_spec (by kernel_rfl) i o h)
    have e1 := hout 1 (fun i o _ h => outB_spec (by kernel_rfl) i o h)
    have e2 := hout 2 (fun i o _ h => outB_spec (by kernel_rfl) i o h)
    have e3 := hout 3 (fun i o _ h => outB_spec (by kernel_rfl) i o h)
    have e4 := hout 4 (fun i o _ h => outB_spec (by kernel_rfl) i o h)
    have e5 := hout 5 (fun i o _ h => outB_spec (by kernel_rfl) i o h)
    have e6 := hout 6 (fun i o _ h => outB_spec (by kernel_rfl) i o h)
    have e7 := hout 7 (fun i o _ h => outB_spec (by kernel_rfl) i o h)
    have e8 := hout 8 (fun i o _ h => outB_spec (by kernel_rfl) i o h)
    have e9 := hout 9 (fun i o _ h => outB_spec (by kernel_rfl) i o h)
    have e10 := hout 10 (fun i o _ h => outB_spec (by kernel_rfl) i o h)
    have e11 := hout 11 (fun i o _ h => outB_spec (by kernel_rfl) i o h)
    have e12 := hout 12 (fun i o _ h => outB_spec (by kernel_rfl) i o h)
    have e13 := hout 13 (fun i o _ h => outB_spec (by kernel_rfl) i o h)
    have e14 := hout 14 (fun i o _ h => outB_spec (by kernel_rfl) i o h)
    have e15 := hout 15 (fun i o _ h => outB_spec (by kernel_rfl) i o h)
    have e16 := hout 16 (fun i o _ h => outB_spec (by kernel_rfl) i o h)
    have e17 := hout 17 (fun i o _ h => outB_spec (by kernel_rfl) i o h)
    have e18 := hout 18 (fun i o _ h => outB_spec (by kernel_rfl) i o h)
    have e19 := hout 19 (fun i o _ h => outB_spec (by kernel_rfl) i o h)
    have e21 := hout 21 (fun i o _ h => outB_spec (by kernel_rfl) i o h)
    have e22 := hout 22 (fun i o _ h => outB_spec (by kernel_rfl) i o h)
    have e23 := hout 23 (fun i o _ h => outB_spec (by kernel_rfl) i o h)
    have e24 := hout 24 (fun i o _ h => outB_spec (by kernel_rfl) i o h)
    have e25 := hout 25 (fun i o _ h => outB_spec (by kernel_rfl) i o h)
    have e26 := hout 26 (fun i o _ h => outB_spec (by kernel_rfl) i o h)
    have e27 := hout 27 (fun i o _ h => outB_spec (by kernel_rfl) i o h)
    have e28 := hout 28 (fun i o _ h => outB_spec (by kernel_rfl) i o h)
    have e29 := hout 29 (fun i o _ h => outB_spec (by kernel_rfl) i o h)
    have e38 := hout 38 (fun i o _ h => outB_spec (by kernel_rfl) i o h)
    have e39 := hout 39 (fun i o _ h => outB_spec (by kernel_rfl) i o h)
    have e40 := hout 40 (fun i o _ h => outB_spec (by kernel_rfl) i o h)
    have e41 := hout 41 (fun i o _ h => outB_spec (by kernel_rfl) i o h)
    have e42 := hout 42 (fun i o _ h => outB_spec (by kernel_rfl) i o h)
    have e43 := hout 43 (fun i o _ h => outB_spec (by kernel_rfl) i o h)
    have e44 := hout 44 (fun i o _ h => outB_spec (by kernel_rfl) i o h)
    have e45 := hout 45 (fun i o _ h => outB_spec (by kernel_rfl) i o h)
    have e46 := hout 46 (fun i o _ h => outB_spec (by kernel_rfl) i o h)
    have e47 := hout 47 (fun i o _ h => outB_spec (by kernel_rfl) i o h)
    have e48 := hout 48 (fun i o _ h => outB_spec (by kernel_rfl) i o h)
    have e49 := hout 49 (fun i o _ h => outB_spec (by kernel_rfl) i o h)
    have e50 := hout 50 (fun i o _ h => outB_spec (by kernel_rfl) i o h)
    have e51 := hout 51 (fun i o _ h => outB_spec (by kernel_rfl) i o h)
    have e52 := hout 52 (fun i o _ h => outB_spec (by kernel_rfl) i o h)
    have e53 := hout 53 (fun i o _ h => outB_spec (by kernel_rfl) i o h)
    have e54 := hout 54 (fun i o _ h => outB_spec (by kernel_rfl) i o h)
    have e55 := hout 55 (fun i o _ h => outB_spec (by kernel_rfl) i o h)
    have e56 := hout 56 (fun i o _ h => outB_spec (by kernel_rfl) i o h)
    have e57 := hout 57 (fun i o _ h => outB_spec (by kernel_rfl) i o h)
    have e58 := hout 58 (fun i o _ h => outB_spec (by kernel_rfl) i o h)
    have e59 := hout 59 (fun i o _ h => outB_spec (by kernel_rfl) i o h)
    have e60 := hout 60 (fun i o _ h => outB_spec (by kernel_rfl) i o h)
    have e61 := hout 61 (fun i o _ h => outB_spec (by kernel_rfl) i o h)
    have e62 := hout 62 (fun i o _ h => outB_spec (by kernel_rfl) i o h)
    have e63 := hout 63 (fun i o _ h => outB_spec (by kernel_rfl) i o h)
    have e64 := hout 64 (fun i o _ h => outB_spec (by kernel_rfl) i o h)
    have e65 := hout 65 (fun i o _ h => outB_spec (by kernel_rfl) i o h)
    have e66 := hout 66 (fun i o _ h => outB_spec (by kernel_rfl) i o h)
    have e67 := hout 67 (fun i o _ h => outB_spec (by kernel_rfl) i o h)
    have e68 := hout 68 (fun i o _ h => outB_spec (by kernel_rfl) i o h)
    have e69 := hout 69 (fun i o _ h => outB_spec (by kernel_rfl) i o h)
    have e70 := hout 70 (fun i o _ h => outB_spec (by kernel_rfl) i o h)
    have e71 := hout 71 (fun i o _ h => outB_spec (by kernel_rfl) i o h)
    have e72 := hout 72 (fun i o _ h => outB_spec (by kernel_rfl) i o h)
    have e73 := hout 73 (fun i o _ h => outB_spec (by kernel_rfl) i o h)
    have e74 := hout 74 (fun i o _ h => outB_spec (by kernel_rfl) i o h)
    have e75 := hout 75 (fun i o _ h => outB_spec (by kernel_rfl) i o h)
    have e76 := hout 76 (fun i o _ h => outB_spec (by kernel_rfl) i o h)
    have e77 := hout 77 (fun i o _ h => outB_spec (by kernel_rfl) i o h)
    have e78 := hout 78 (fun i o _ h => outB_spec (by kernel_rfl) i o h)
    have e79 := hout 79 (fun i o _ h => outB_spec (by kernel_rfl) i o h)
    have e80 := hout 80 (fun i o _ h => outB_spec (by kernel_rfl) i o h)
    have e81 := hout 81 (fun i o _ h => outB_spec (by kernel_rfl) i o h)
    have e82 := hout 82 (fun i o _ h => outB_spec (by kernel_rfl) i o h)
    have e83 := hout 83 (fun i o _ h => outB_spec (by kernel_rfl) i o h)
    have e84 := hout 84 (fun i o _ h => outB_spec (by kernel_rfl) i o h)
    have e85 := hout 85 (fun i o _ h => outB_spec (by kernel_rfl) i o h)
    have e86 := hout 86 (fun i o _ h => outB_spec (by kernel_rfl) i o h)
    have e87 := hout 87 (fun i o _ h => outB_spec (by kernel_rfl) i o h)
    have e88 := hout 88 (fun i o _ h => outB_spec (by kernel_rfl) i o h)
    have e89 := hout 89 (fun i o _ h => outB_spec (by kernel_rfl) i o h)
    have e90 := hout 90 (fun i o _ h => outB_spec (by kernel_rfl) i o h)
    have e91 := hout 91 (fun i o _ h => outB_spec (by kernel_rfl) i o h)
    have e92 := hout 92 (fun i o _ h => outB_spec (by kernel_rfl) i o h)
    have e93 := hout 93 (fun i o _ h => outB_spec (by kernel_rfl) i o h)
    have e94 := hout 94 (fun i o _ h => outB_spec (by kernel_rfl) i o h)
    have e95 := hout 95 (fun i o _ h => outB_spec (by kernel_rfl) i o h)
    have e96 := hout 96 (fun i o _ h => outB_spec (by kernel_rfl) i o h)
    have e97 := hout 97 (fun i o _ h => outB_spec (by kernel_rfl) i o h)
    have e98 := hout 98 (fun i o _ h => outB_spec (by kernel_rfl) i o h)
    have e99 := hout 99 (fun i o _ h => outB_spec (by kernel_rfl) i o h)
    have e100 := hout 100 (fun i o _ h => outB_spec (by kernel_rfl) i o h)
    have e101 := hout 101 (fun i o _ h => outB_spec (by kernel_rfl) i o h)
    have e102 := hout 102 (fun i o _ h => outB_spec (by kernel_rfl) i o h)
    have e103 := hout 103 (fun i o _ h => outB_spec (by kernel_rfl) i o h)
    have e104 := hout 104 (fun i o _ h => outB_spec (by kernel_rfl) i o h)
    have e105 := hout 105 (fun i o _ h => outB_spec (by kernel_rfl) i o h)
    have e106 := hout 106 (fun i o _ h => outB_spec (by kernel_rfl) i o h)
    have e107 := hout 107 (fun i o _ h => outB_spec (by kernel_rfl) i o h)
    have e108 := hout 108 (fun i o _ h => outB_spec (by kernel_rfl) i o h)
    have e109 := hout 109 (fun i o _ h => outB_spec (by kernel_rfl) i o h)
    have e110 := hout 110 (fun i o _ h => outB_spec (by kernel_rfl) i o h)
    have e111 := hout 111 (fun i o _ h => outB_spec (by kernel_rfl) i o h)
    have e112 := hout 112 (fun i o _ h => outB_spec (by kernel_rfl) i o h)
    have e113 := hout 113 (fun i o _ h => outB_spec (by kernel_rfl) i o h)
    have e114 := hout 114 (fun i o _ h => outB_spec (by kernel_rfl) i o h)
    simp only [Array.getD_eq_getD_getElem?, List.getElem?_toArray, List.getElem?_cons_zero, List.getElem?_cons_succ, Option.getD_some] at e0 e1 e2 e3 e4 e5 e6 e7 e8 e9 e10 e11 e12 e13 e14 e15 e16 e17 e18 e19 e21 e22 e23 e24 e25 e26 e27 e28 e29 e38 e39 e40 e41 e42 e43 e44 e45 e46 e47 e48 e49 e50 e51 e52 e53 e54 e55 e56 e57 e58 e59 e60 e61 e62 e63 e64 e65 e66 e67 e68 e69 e70 e71 e72 e73 e74 e75 e76 e77 e78 e79 e80 e81 e82 e83 e84 e85 e86 e87 e88 e89 e90 e91 e92 e93 e94 e95 e96 e97 e98 e99 e100 e101 e102 e103 e104 e105 e106 e107 e108 e109 e110 e111 e112 e113 e114
    rw [e0, e1, e2, e3, e4, e5, e6, e7, e8, e9, e10, e11, e12, e13, e14, e15, e16, e17, e18, e19, e21, e22, e23, e24, e25, e26, e27, e28, e29, e38, e39, e40, e41, e42, e43, e44, e45, e46, e47, e48, e49, e50, e51, e52, e53, e54, e55, e56, e57, e58, e59, e60, e61, e62, e63, e64, e65, e66, e67, e68, e69, e70, e71, e72, e73, e74, e75, e76, e77, e78, e79, e80, e81, e82, e83, e84, e85, e86, e87, e88, e89, e90, e91, e92, e93, e94, e95, e96, e97, e98, e99, e100, e101, e102, e103, e104, e105, e106, e107, e108, e109, e110, e111, e112, e113, e114] at hA
    clear e0 e1 e2 e3 e4 e5 e6 e7 e8 e9 e10 e11 e12 e13 e14 e15 e16 e17 e18 e19 e21 e22 e23 e24 e25 e26 e27 e28 e29 e38 e39 e40 e41 e42 e43 e44 e45 e46 e47 e48 e49 e50 e51 e52 e53 e54 e55 e56 e57 e58 e59 e60 e61 e62 e63 e64 e65 e66 e67 e68 e69 e70 e71 e72 e73 e74 e75 e76 e77 e78 e79 e80 e81 e82 e83 e84 e85 e86 e87 e88 e89 e90 e91 e92 e93 e94 e95 e96 e97 e98 e99 e100 e101 e102 e103 e104 e105 e106 e107 e108 e109 e110 e111 e112 e113 e114 hout
    have hds2 : a.defers = [] := hdef
    have ea : a = ⟨a.tmps, a.defers⟩ := rfl
    have s37 : a.tmps[37]?.getD undef = psa.V := by simpa [Array.getD_eq_getD_getElem?] using qsa
    rw [hA, hds2, s37] at ea
    clear hA hds2 s37 qsa hdef
    generalize a.tmps[30]?.getD undef = y30 at ea
    generalize a.tmps[31]?.getD undef = y31 at ea
    generalize a.tmps[32]?.getD undef = y32 at ea
    generalize a.tmps[33]?.getD undef = y33 at ea
    generalize a.tmps[34]?.getD undef = y34 at ea
    generalize a.tmps[35]?.getD undef = y35 at ea
    generalize a.tmps[36]?.getD undef = y36 at ea
    generalize a.tmps[20]?.getD undef = y20 at ea
    clear hsz
    subst ea
    have bx : Below wr.heap.size wr w2 := Below.trans (Below.refl _ _).drew hx
    unfold wpOp
    simp only [List.getElem?_toArray, List.getElem?_cons_zero, List.getElem?_cons_succ]
    rw [if_pos (by rfl)]
    left
    have AI := Lib.hid (hai.ext (show Ex wr w2 from bx))
    have TI := Lib.hid (hti.ext (show Ex wr w2 from bx))
    have RI := Lib.hid (hri.ext (show Ex wr w2 from bx))
    have BI2 := Lib.hid (BI.out.ext (show Ex wr w2 from bx))
    have HA2 := Lib.hid (HA.out.ext (show Ex wr w2 from bx))
    have HB2 := Lib.hid (HB.out.ext (show Ex wr w2 from bx))
    have SI := Lib.hid isa
    have bw2 := bw.trans (bx.mono (by omega))
    have bz2 : w.heap.size + 2 ≤ w2.heap.size := by have := bx.size; omega
    obtain ⟨psV, hpsV⟩ : ∃ v, v = psa.V := ⟨_, rfl⟩
    have HPS := Lib.hid hpsV
    rw [← hpsV, ← HPA.out, ← HPT.out, ← HPR.out]
    clear hai hti hri BI HA HB isa bw bz bx hx hpsV CS
    go_simp
    rw [HPS.out, HPA.out, HPT.out, HPR.out]
    have hai := AI.out
    have hti := TI.out
    have hri := RI.out
    have isa := SI.out
    have HA := HA2
    have HB := HB2
    clear HA2 HB2 AI TI RI SI
    go_wp2_with fail
    generalize w2 = wr at *
    obtain ⟨T, hT⟩ : ∃ T : List As, T = [.pt S, .is (.string (strL S)), .is (digV kl), .is (.int .u64 n), .pt A, .pt TX, .pt S, .is (.string (strL S)), .is (.bool false), .is (.bool false), .pt S, .is (.int .i64 (ls : Int)), .is (.bool false), .is (.bool false), .is (.bool false), .pt LR, .pt TX, .is (.bool true), .is (.bool false)] := ⟨_, rfl⟩
    refine wp_region_flow 19 (tabPhi T) (by kernel_rfl) rfl (by kernel_rfl) (by kernel_rfl) (by kernel_rfl) (tabPhi_stable T) (fitB_spec (by kernel_rfl)) ?_ ?_
    · intro i o hi ho
      have hi' : i = 0 ∨ i = 1 ∨ i = 2 ∨ i = 3 ∨ i = 4 ∨ i = 5 ∨ i = 6 ∨ i = 7 ∨ i = 8 ∨ i = 9 ∨ i = 10 ∨ i = 11 ∨ i = 12 ∨ i = 13 ∨ i = 14 ∨ i = 15 ∨ i = 16 ∨ i = 17 ∨ i = 18 := by omega
      rcases hi' with rfl | rfl | rfl | rfl | rfl | rfl | rfl | rfl | rfl | rfl | rfl | rfl | rfl | rfl | rfl | rfl | rfl | rfl | rfl
      all_goals (simp only [List.getElem?_toArray, List.getElem?_cons_zero, List.getElem?_cons_succ, Option.some.injEq] at ho; subst ho; intro a w2 hx hsz hdep hout)
      · rw [if_pos (by rfl)]
        intro K hK
        have f := hout 20 (outB_spec (by kernel_rfl))
        exact wp_mv _ rfl (hK _ _ (Ex.refl _) (by rw [hT]; exact ⟨psa, f, lsa, isa.ext (Ex.trans (show Ex wr wr.drew from (Below.refl _ _).drew) hx)⟩))
      · rw [if_pos (by rfl)]
        intro K hK
        obtain ⟨v, hv, kv⟩ := hdep ⟨0, .data⟩ (by simp) rfl _ rfl
        have qv := kv _ rfl
        rw [hT] at hv
        obtain ⟨pv, rfl, lv, iv⟩ := hv
        have cv := pt_conv pv w2 iv
        rw [lv] at cv
        have q : a.tmps[38]?.getD undef = .slice pv.ad (S).length pv.cap := by rw [← Array.getD_eq_getD_getElem?, qv]; unfold Pt.V; rw [lv]
        generalize (S).length = nn at cv q
        clear hsz hdep hout qv kv lv
        go_simp
        exact hK _ _ (Ex.refl _) (by rw [hT]; rfl)
      · rw [if_pos (by rfl)]
        intro K hK
        have f := hout 9 (outB_spec (by kernel_rfl))
        exact wp_ld _ w.heap.size kl rfl f (HA.out.ext (Ex.trans (show Ex wr wr.drew from (Below.refl _ _).drew) hx)) (hK _ _ (Ex.refl _) (by rw [hT]; rfl))
      · rw [if_pos (by rfl)]
        intro K hK
        have f := hout 2 (outB_spec (by kernel_rfl))
        exact wp_mv _ rfl (hK _ _ (Ex.refl _) (by rw [hT]; exact f))
      · rw [if_pos (by rfl)]
        intro K hK
        have f := hout 4 (outB_spec (by kernel_rfl))
        exact wp_mv _ rfl (hK _ _ (Ex.refl _) (by rw [hT]; exact ⟨pa, f, hal, hai.ext (Ex.trans (show Ex wr wr.drew from (Below.refl _ _).drew) hx)⟩))
      · rw [if_pos (by rfl)]
        intro K hK
        have f := hout 5 (outB_spec (by kernel_rfl))
        exact wp_mv _ rfl (hK _ _ (Ex.refl _) (by rw [hT]; exact ⟨pt, f, htl, hti.ext (Ex.trans (show Ex wr wr.drew from (Below.refl _ _).drew) hx)⟩))
      · rw [if_pos (by rfl)]
        intro K hK
        obtain ⟨v, hv, kv⟩ := hdep ⟨2, .data⟩ (by simp) rfl _ rfl
        have qv := kv _ rfl
        rw [hT] at hv
        obtain rfl : v = digV kl := hv
        obtain ⟨u, hu, ku⟩ := hdep ⟨3, .data⟩ (by simp) rfl _ rfl
        have qu := ku _ rfl
        rw [hT] at hu
        obtain rfl : u = .int .u64 n := hu
        obtain ⟨x, hx, kx⟩ := hdep ⟨4, .data⟩ (by simp) rfl _ rfl
        have qx := kx _ rfl
        rw [hT] at hx
        obtain ⟨px, rfl, lx, ix⟩ := hx
        obtain ⟨y, hy, ky⟩ := hdep ⟨5, .data⟩ (by simp) rfl _ rfl
        have qy := ky _ rfl
        rw [hT] at hy
        obtain ⟨py, rfl, ly, iy⟩ := hy
        go_simp
        refine (CR.out w2 _ _ lx ly ix iy).mono ?_
        rintro e w3 ⟨p, rfl, hl, hin, hex⟩
        exact hK _ _ hex (by rw [hT]; exact ⟨p, rfl, hl, hin⟩)
      · rw [if_pos (by rfl)]
        intro K hK
        obtain ⟨v, hv, kv⟩ := hdep ⟨6, .data⟩ (by simp) rfl _ rfl
        have qv := kv _ rfl
        rw [hT] at hv
        obtain ⟨pv, rfl, lv, iv⟩ := hv
        have cv := pt_conv pv w2 iv
        rw [lv] at cv
        have q : a.tmps[44]?.getD undef = .slice pv.ad (S).length pv.cap := by rw [← Array.getD_eq_getD_getElem?, qv]; unfold Pt.V; rw [lv]
        generalize (S).length = nn at cv q
        clear hsz hdep hout qv kv lv
        go_simp
        exact hK _ _ (Ex.refl _) (by rw [hT]; rfl)
      · rw [if_pos (by rfl)]
        intro K hK
        obtain ⟨v, hv, kv⟩ := hdep ⟨1, .data⟩ (by simp) rfl _ rfl
        have qv := kv _ rfl
        rw [hT] at hv
        obtain rfl : v = .string (strL S) := hv
        obtain ⟨u, hu, ku⟩ := hdep ⟨7, .data⟩ (by simp) rfl _ rfl
        have qu := ku _ rfl
        rw [hT] at hu
        obtain rfl : u = .string (strL S) := hu
        clear hsz hdep hout kv ku
        go_simp
        exact hK _ _ (Ex.refl _) (by rw [hT]; rfl)
      · rw [if_pos (by rfl)]
        intro K hK
        obtain ⟨v, hv, kv⟩ := hdep ⟨8, .data⟩ (by simp) rfl _ rfl
        have qv := kv _ rfl
        rw [hT] at hv
        obtain rfl : v = .bool false := hv
        exact wp_mv _ rfl (hK _ _ (Ex.refl _) (by rw [hT]; exact qv))
      · obtain ⟨vg, hvg, kg⟩ := hdep ⟨9, .guard⟩ (by simp) rfl _ rfl
        rw [hT] at hvg
        obtain rfl : vg = .bool false := hvg
        rw [if_pos (wanted_of rfl rfl rfl (kg _ rfl))]
        intro K hK
        have f := hout 20 (outB_spec (by kernel_rfl))
        exact wp_mv _ rfl (hK _ _ (Ex.refl _) (by rw [hT]; exact ⟨psa, f, lsa, isa.ext (Ex.trans (show Ex wr wr.drew from (Below.refl _ _).drew) hx)⟩))
      · obtain ⟨vg, hvg, kg⟩ := hdep ⟨9, .guard⟩ (by simp) rfl _ rfl
        rw [hT] at hvg
        obtain rfl : vg = .bool false := hvg
        rw [if_pos (wanted_of rfl rfl rfl (kg _ rfl))]
        intro K hK
        obtain ⟨v, hv, kv⟩ := hdep ⟨10, .data⟩ (by simp) rfl _ rfl
        have qv := kv _ rfl
        rw [hT] at hv
        obtain ⟨pv, rfl, lv, iv⟩ := hv
        have q : a.tmps[48]?.getD undef = .slice pv.ad ls pv.cap := by rw [← Array.getD_eq_getD_getElem?, qv]; unfold Pt.V; rw [lv, HSl.out]
        clear hsz hdep hout qv kv lv kg
        go_simp
        exact hK _ _ (Ex.refl _) (by rw [hT]; rfl)
      · obtain ⟨vg, hvg, kg⟩ := hdep ⟨9, .guard⟩ (by simp) rfl _ rfl
        rw [hT] at hvg
        obtain rfl : vg = .bool false := hvg
        rw [if_pos (wanted_of rfl rfl rfl (kg _ rfl))]
        intro K hK
        obtain ⟨v, hv, kv⟩ := hdep ⟨11, .data⟩ (by simp) rfl _ rfl
        have qv := kv _ rfl
        rw [hT] at hv
        obtain rfl : v = .int .i64 (ls : Int) := hv
        clear hsz hdep hout kv kg
        have hz : ¬ (ls : Int) = 0 := by omega
        go_simp
        exact hK _ _ (Ex.refl _) (by rw [hT]; first | rfl | (show Value.bool _ = .bool false; simp; omega))
      · rw [if_pos (by rfl)]
        intro K hK
        obtain ⟨v, hv, kv⟩ := hdep ⟨9, .data⟩ (by simp) rfl _ rfl
        have qv := kv _ rfl
        rw [hT] at hv
        obtain rfl : v = .bool false := hv
        obtain ⟨u, hu, ku⟩ := hdep ⟨12, .data⟩ (by simp) rfl _ rfl
        have qu := ku _ rfl
        rw [hT] at hu
        obtain rfl : u = .bool false := hu
        clear hsz hdep hout
        go_simp
        exact hK _ _ (Ex.refl _) (by rw [hT]; rfl)
      · rw [if_pos (by rfl)]
        intro K hK
        obtain ⟨v, hv, kv⟩ := hdep ⟨13, .data⟩ (by simp) rfl _ rfl
        have qv := kv _ rfl
        rw [hT] at hv
        obtain rfl : v = .bool false := hv
        exact wp_mv _ rfl (hK _ _ (Ex.refl _) (by rw [hT]; exact qv))
      · obtain ⟨vg, hvg, kg⟩ := hdep ⟨14, .guard⟩ (by simp) rfl _ rfl
        rw [hT] at hvg
        obtain rfl : vg = .bool false := hvg
        rw [if_pos (wanted_of rfl rfl rfl (kg _ rfl))]
        intro K hK
        have f := hout 19 (outB_spec (by kernel_rfl))
        exact wp_mv _ rfl (hK _ _ (Ex.refl _) (by rw [hT]; exact ⟨pr, f, hrl, hri.ext (Ex.trans (show Ex wr wr.drew from (Below.refl _ _).drew) hx)⟩))
      · obtain ⟨vg, hvg, kg⟩ := hdep ⟨14, .guard⟩ (by simp) rfl _ rfl
        rw [hT] at hvg
        obtain rfl : vg = .bool false := hvg
        rw [if_pos (wanted_of rfl rfl rfl (kg _ rfl))]
        intro K hK
        have f := hout 5 (outB_spec (by kernel_rfl))
        exact wp_mv _ rfl (hK _ _ (Ex.refl _) (by rw [hT]; exact ⟨pt, f, htl, hti.ext (Ex.trans (show Ex wr wr.drew from (Below.refl _ _).drew) hx)⟩))
      · obtain ⟨vg, hvg, kg⟩ := hdep ⟨14, .guard⟩ (by simp) rfl _ rfl
        rw [hT] at hvg
        obtain rfl : vg = .bool false := hvg
        rw [if_pos (wanted_of rfl rfl rfl (kg _ rfl))]
        intro K hK
        obtain ⟨v, hv, kv⟩ := hdep ⟨15, .data⟩ (by simp) rfl _ rfl
        have qv := kv _ rfl
        rw [hT] at hv
        obtain ⟨pv, rfl, lv, iv⟩ := hv
        obtain ⟨u, hu, ku⟩ := hdep ⟨16, .data⟩ (by simp) rfl _ rfl
        have qu := ku _ rfl
        rw [hT] at hu
        obtain ⟨pu, rfl, lu, iu⟩ := hu
        go_simp
        refine (IN.out w2 pv pu lv lu iv iu).mono ?_
        rintro e w3 ⟨rfl, hex⟩
        exact hK _ _ hex (by rw [hT]; rfl)
      · obtain ⟨vg, hvg, kg⟩ := hdep ⟨14, .guard⟩ (by simp) rfl _ rfl
        rw [hT] at hvg
        obtain rfl : vg = .bool false := hvg
        rw [if_pos (wanted_of rfl rfl rfl (kg _ rfl))]
        intro K hK
        obtain ⟨v, hv, kv⟩ := hdep ⟨17, .data⟩ (by simp) rfl _ rfl
        have qv := kv _ rfl
        rw [hT] at hv
        obtain rfl : v = .bool true := hv
        clear hsz hdep hout kg kv
        go_simp
        exact hK _ _ (Ex.refl _) (by rw [hT]; rfl)
    · intro a w2 hx hdef hsz hdone hout
      obtain ⟨v, hv, kv⟩ := hdone 14 _ (by omega) rfl
      have qv := kv _ rfl
      rw [hT] at hv
      obtain rfl : v = .bool false := hv
      obtain ⟨u, hu, ku⟩ := hdone 18 _ (by omega) rfl
      have qu := ku _ rfl
      rw [hT] at hu
      obtain rfl : u = .bool false := hu
      clear hdone kv ku hT
      have hA := arr_range a.tmps 115 hsz
      change a.tmps = #[a.tmps[0]?.getD undef, a.tmps[1]?.getD undef, a.tmps[2]?.getD undef, a.tmps[3]?.getD undef, a.tmps[4]?.getD undef, a.tmps[5]?.getD undef, a.tmps[6]?.getD undef, a.tmps[7]?.getD undef, a.tmps[8]?.getD undef, a.tmps[9]?.getD undef, a.tmps[10]?.getD undef, a.tmps[11]?.getD undef, a.tmps[12]?.getD undef, a.tmps[13]?.getD undef, a.tmps[14]?.getD undef, a.tmps[15]?.getD undef, a.tmps[16]?.getD undef, a.tmps[17]?.getD undef, a.tmps[18]?.getD undef, a.tmps[19]?.getD undef, a.tmps[20]?.getD undef, a.tmps[21]?.getD undef, a.tmps[22]?.getD undef, a.tmps[23]?.getD undef, a.tmps[24]?.getD undef, a.tmps[25]?.getD undef, a.tmps[26]?.getD undef, a.tmps[27]?.getD undef, a.tmps[28]?.getD undef, a.tmps[29]?.getD undef, a.tmps[30]?.getD undef, a.tmps[31]?.getD undef, a.tmps[32]?.getD undef, a.tmps[33]?.getD undef, a.tmps[34]?.getD undef, a.tmps[35]?.getD undef, a.tmps[36]?.getD undef, a.tmps[37]?.getD undef, a.tmps[38]?.getD undef, a.tmps[39]?.getD undef, a.tmps[40]?.getD undef, a.tmps[41]?.getD undef, a.tmps[42]?.getD undef, a.tmps[43]?.getD undef, a.tmps[44]?.getD undef, a.tmps[45]?.getD undef, a.tmps[46]?.getD undef, a.tmps[47]?.getD undef, a.tmps[48]?.getD undef, a.tmps[49]?.getD undef, a.tmps[50]?.getD undef, a.tmps[51]?.getD undef, a.tmps[52]?.getD undef, a.tmps[53]?.getD undef, a.tmps[54]?.getD undef, a.tmps[55]?.getD undef, a.tmps[56]?.getD undef, a.tmps[57]?.getD undef, a.tmps[58]?.getD undef, a.tmps[59]?.getD undef, a.tmps[60]?.getD undef, a.tmps[61]?.getD undef, a.tmps[62]?.getD undef, a.tmps[63]?.getD undef, a.tmps[64]?.getD undef, a.tmps[65]?.getD undef, a.tmps[66]?.getD undef, a.tmps[67]?.getD undef, a.tmps[68]?.getD undef, a.tmps[69]?.getD undef, a.tmps[70]?.getD undef, a.tmps[71]?.getD undef, a.tmps[72]?.getD undef, a.tmps[73]?.getD undef, a.tmps[74]?.getD undef, a.tmps[75]?.getD undef, a.tmps[76]?.getD undef, a.tmps[77]?.getD undef, a.tmps[78]?.getD undef, a.tmps[79]?.getD undef, a.tmps[80]?.getD undef, a.tmps[81]?.getD undef, a.tmps[82]?.getD undef, a.tmps[83]?.getD undef, a.tmps[84]?.getD undef, a.tmps[85]?.getD undef, a.tmps[86]?.getD undef, a.tmps[87]?.getD undef, a.tmps[88]?.getD undef, a.tmps[89]?.getD undef, a.tmps[90]?.getD undef, a.tmps[91]?.getD undef, a.tmps[92]?.getD undef, a.tmps[93]?.getD undef, a.tmps[94]?.getD undef, a.tmps[95]?.getD undef, a.tmps[96]?.getD undef, a.tmps[97]?.getD undef, a.tmps[98]?.getD undef, a.tmps[99]?.getD undef, a.tmps[100]?.getD undef, a.tmps[101]?.getD undef, a.tmps[102]?.getD undef, a.tmps[103]?.getD undef, a.tmps[104]?.getD undef, a.tmps[105]?.getD undef, a.tmps[106]?.getD undef, a.tmps[107]?.getD undef, a.tmps[108]?.getD undef, a.tmps[109]?.getD undef, a.tmps[110]?.getD undef, a.tmps[111]?.getD undef, a.tmps[112]?.getD undef, a.tmps[113]?.getD undef, a.tmps[114]?.getD undef] at hA
      have e0 := hout 0 (fun i o _ h => outB_spec (by kernel_rfl) i o h)
      have e1 := hout 1 (fun i o _ h => outB_spec (by kernel_rfl) i o h)
      have e2 := hout 2 (fun i o _ h => outB_spec (by kernel_rfl) i o h)
      have e3 := hout 3 (fun i o _ h => outB_spec (by kernel_rfl) i o h)
      have e4 := hout 4 (fun i o _ h => outB_spec (by kernel_rfl) i o h)
      have e5 := hout 5 (fun i o _ h => outB_spec (by kernel_rfl) i o h)
      have e6 := hout 6 (fun i o _ h => outB_spec (by kernel_rfl) i o h)
      have e7 := hout 7 (fun i o _ h => outB_spec (by kernel_rfl) i o h)
      have e8 := hout 8 (fun i o _ h => outB_spec (by kernel_rfl) i o h)
      have e9 := hout 9 (fun i o _ h => outB_spec (by kernel_rfl) i o h)
      have e10 := hout 10 (fun i o _ h => outB_spec (by kernel_rfl) i o h)
      have e11 := hout 11 (fun i o _ h => outB_spec (by kernel_rfl) i o h)
      have e12 := hout 12 (fun i o _ h => outB_spec (by kernel_rfl) i o h)
      have e13 := hout 13 (fun i o _ h => outB_spec (by kernel_rfl) i o h)
      have e14 := hout 14 (fun i o _ h => outB_spec (by kernel_rfl) i o h)
      have e15 := hout 15 (fun i o _ h => outB_spec (by kernel_rfl) i o h)
      have e16 := hout 16 (fun i o _ h => outB_spec (by kernel_rfl) i o h)
      have e17 := hout 17 (fun i o _ h => outB_spec (by kernel_rfl) i o h)
      have e18 := hout 18 (fun i o _ h => outB_spec (by kernel_rfl) i o h)
      have e19 := hout 19 (fun i o _ h => outB_spec (by kernel_rfl) i o h)
      have e20 := hout 20 (fun i o _ h => outB_spec (by kernel_rfl) i o h)
      have e21 := hout 21 (fun i o _ h => outB_spec (by kernel_rfl) i o h)
      have e22 := hout 22 (fun i o _ h => outB_spec (by kernel_rfl) i o h)
      have e23 := hout 23 (fun i o _ h => outB_spec (by kernel_rfl) i o h)
      have e24 := hout 24 (fun i o _ h => outB_spec (by kernel_rfl) i o h)
      have e25 := hout 25 (fun i o _ h => outB_spec (by kernel_rfl) i o h)
      have e26 := hout 26 (fun i o _ h => outB_spec (by kernel_rfl) i o h)
      have e27 := hout 27 (fun i o _ h => outB_spec (by kernel_rfl) i o h)
      have e28 := hout 28 (fun i o _ h => outB_spec (by kernel_rfl) i o h)
      have e29 := hout 29 (fun i o _ h => outB_spec (by kernel_rfl) i o h)
      have e30 := hout 30 (fun i o _ h => outB_spec (by kernel_rfl) i o h)
      have e31 := hout 31 (fun i o _ h => outB_spec (by kernel_rfl) i o h)
      have e32 := hout 32 (fun i o _ h => outB_spec (by kernel_rfl) i o h)
      have e33 := hout 33 (fun i o _ h => outB_spec (by kernel_rfl) i o h)
      have e34 := hout 34 (fun i o _ h => outB_spec (by kernel_rfl) i o h)
      have e35 := hout 35 (fun i o _ h => outB_spec (by kernel_rfl) i o h)
      have e36 := hout 36 (fun i o _ h => outB_spec (by kernel_rfl) i o h)
      have e37 := hout 37 (fun i o _ h => outB_spec (by kernel_rfl) i o h)
      have e58 := hout 58 (fun i o _ h => outB_spec (by kernel_rfl) i o h)
      have e59 := hout 59 (fun i o _ h => outB_spec (by kernel_rfl) i o h)
      have e60 := hout 60 (fun i o _ h => outB_spec (by kernel_rfl) i o h)
      have e61 := hout 61 (fun i o _ h => outB_spec (by kernel_rfl) i o h)
      have e62 := hout 62 (fun i o _ h => outB_spec (by kernel_rfl) i o h)
      have e63 := hout 63 (fun i o _ h => outB_spec (by kernel_rfl) i o h)
      have e64 := hout 64 (fun i o _ h => outB_spec (by kernel_rfl) i o h)
      have e65 := hout 65 (fun i o _ h => outB_spec (by kernel_rfl) i o h)
      have e66 := hout 66 (fun i o _ h => outB_spec (by kernel_rfl) i o h)
      have e67 := hout 67 (fun i o _ h => outB_spec (by kernel_rfl) i o h)
      have e68 := hout 68 (fun i o _ h => outB_spec (by kernel_rfl) i o h)
      have e69 := hout 69 (fun i o _ h => outB_spec (by kernel_rfl) i o h)
      have e70 := hout 70 (fun i o _ h => outB_spec (by kernel_rfl) i o h)
      have e71 := hout 71 (fun i o _ h => outB_spec (by kernel_rfl) i o h)
      have e72 := hout 72 (fun i o _ h => outB_spec (by kernel_rfl) i o h)
      have e73 := hout 73 (fun i o _ h => outB_spec (by kernel_rfl) i o h)
      have e74 := hout 74 (fun i o _ h => outB_spec (by kernel_rfl) i o h)
      have e75 := hout 75 (fun i o _ h => outB_spec (by kernel_rfl) i o h)
      have e76 := hout 76 (fun i o _ h => outB_spec (by kernel_rfl) i o h)
      have e77 := hout 77 (fun i o _ h => outB_spec (by kernel_rfl) i o h)
      have e78 := hout 78 (fun i o _ h => outB_spec (by kernel_rfl) i o h)
      have e79 := hout 79 (fun i o _ h => outB_spec (by kernel_rfl) i o h)
      have e80 := hout 80 (fun i o _ h => outB_spec (by kernel_rfl) i o h)
      have e81 := hout 81 (fun i o _ h => outB_spec (by kernel_rfl) i o h)
      have e82 := hout 82 (fun i o _ h => outB_spec (by kernel_rfl) i o h)
      have e83 := hout 83 (fun i o _ h => outB_spec (by kernel_rfl) i o h)
      have e84 := hout 84 (fun i o _ h => outB_spec (by kernel_rfl) i o h)
      have e85 := hout 85 (fun i o _ h => outB_spec (by kernel_rfl) i o h)
      have e86 := hout 86 (fun i o _ h => outB_spec (by kernel_rfl) i o h)
      have e87 := hout 87 (fun i o _ h => outB_spec (by kernel_rfl) i o h)
      have e88 := hout 88 (fun i o _ h => outB_spec (by kernel_rfl) i o h)
      have e89 := hout 89 (fun i o _ h => outB_spec (by kernel_rfl) i o h)
      have e90 := hout 90 (fun i o _ h => outB_spec (by kernel_rfl) i o h)
      have e91 := hout 91 (fun i o _ h => outB_spec (by kernel_rfl) i o h)
      have e92 := hout 92 (fun i o _ h => outB_spec (by kernel_rfl) i o h)
      have e93 := hout 93 (fun i o _ h => outB_spec (by kernel_rfl) i o h)
      have e94 := hout 94 (fun i o _ h => outB_spec (by kernel_rfl) i o h)
      have e95 := hout 95 (fun i o _ h => outB_spec (by kernel_rfl) i o h)
      have e96 := hout 96 (fun i o _ h => outB_spec (by kernel_rfl) i o h)
      have e97 := hout 97 (fun i o _ h => outB_spec (by kernel_rfl) i o h)
      have e98 := hout 98 (fun i o _ h => outB_spec (by kernel_rfl) i o h)
      have e99 := hout 99 (fun i o _ h => outB_spec (by kernel_rfl) i o h)
      have e100 := hout 100 (fun i o _ h => outB_spec (by kernel_rfl) i o h)
      have e101 := hout 101 (fun i o _ h => outB_spec (by kernel_rfl) i o h)
      have e102 := hout 102 (fun i o _ h => outB_spec (by kernel_rfl) i o h)
      have e103 := hout 103 (fun i o _ h => outB_spec (by kernel_rfl) i o h)
      have e104 := hout 104 (fun i o _ h => outB_spec (by kernel_rfl) i o h)
      have e105 := hout 105 (fun i o _ h => outB_spec (by kernel_rfl) i o h)
      have e106 := hout 106 (fun i o _ h => outB_spec (by kernel_rfl) i o h)
      have e107 := hout 107 (fun i o _ h => outB_spec (by kernel_rfl) i o h)
      have e108 := hout 108 (fun i o _ h => outB_spec (by kernel_rfl) i o h)
      have e109 := hout 109 (fun i o _ h => outB_spec (by kernel_rfl) i o h)
      have e110 := hout 110 (fun i o _ h => outB_spec (by kernel_rfl) i o h)
      have e111 := hout 111 (fun i o _ h => outB_spec (by kernel_rfl) i o h)
      have e112 := hout 112 (fun i o _ h => outB_spec (by kernel_rfl) i o h)
      have e113 := hout 113 (fun i o _ h => outB_spec (by kernel_rfl) i o h)
      have e114 := hout 114 (fun i o _ h => outB_spec (by kernel_rfl) i o h)
      simp only [Array.getD_eq_getD_getElem?, List.getElem?_toArray, List.getElem?_cons_zero, List.getElem?_cons_succ, Option.getD_some] at e0 e1 e2 e3 e4 e5 e6 e7 e8 e9 e10 e11 e12 e13 e14 e15 e16 e17 e18 e19 e20 e21 e22 e23 e24 e25 e26 e27 e28 e29 e30 e31 e32 e33 e34 e35 e36 e37 e58 e59 e60 e61 e62 e63 e64 e65 e66 e67 e68 e69 e70 e71 e72 e73 e74 e75 e76 e77 e78 e79 e80 e81 e82 e83 e84 e85 e86 e87 e88 e89 e90 e91 e92 e93 e94 e95 e96 e97 e98 e99 e100 e101 e102 e103 e104 e105 e106 e107 e108 e109 e110 e111 e112 e113 e114
      rw [e0, e1, e2, e3, e4, e5, e6, e7, e8, e9, e10, e11, e12, e13, e14, e15, e16, e17, e18, e19, e20, e21, e22, e23, e24, e25, e26, e27, e28, e29, e30, e31, e32, e33, e34, e35, e36, e37, e58, e59, e60, e61, e62, e63, e64, e65, e66, e67, e68, e69, e70, e71, e72, e73, e74, e75, e76, e77, e78, e79, e80, e81, e82, e83, e84, e85, e86, e87, e88, e89, e90, e91, e92, e93, e94, e95, e96, e97, e98, e99, e100, e101, e102, e103, e104, e105, e106, e107, e108, e109, e110, e111, e112, e113, e114] at hA
      clear e0 e1 e2 e3 e4 e5 e6 e7 e8 e9 e10 e11 e12 e13 e14 e15 e16 e17 e18 e19 e20 e21 e22 e23 e24 e25 e26 e27 e28 e29 e30 e31 e32 e33 e34 e35 e36 e37 e58 e59 e60 e61 e62 e63 e64 e65 e66 e67 e68 e69 e70 e71 e72 e73 e74 e75 e76 e77 e78 e79 e80 e81 e82 e83 e84 e85 e86 e87 e88 e89 e90 e91 e92 e93 e94 e95 e96 e97 e98 e99 e100 e101 e102 e103 e104 e105 e106 e107 e108 e109 e110 e111 e112 e113 e114 hout
      have hds2 : a.defers = [] := hdef
      have ea : a = ⟨a.tmps, a.defers⟩ := rfl
      have s52 : a.tmps[52]?.getD undef = .bool false := by simpa [Array.getD_eq_getD_getElem?] using qv
      have s56 : a.tmps[56]?.getD undef = .bool false := by simpa [Array.getD_eq_getD_getElem?] using qu
      rw [hA, hds2, s52, s56] at ea
      clear hA hds2 s52 qv s56 qu hdef
      generalize a.tmps[38]?.getD undef = y38 at ea
      generalize a.tmps[39]?.getD undef = y39 at ea
      generalize a.tmps[40]?.getD undef = y40 at ea
      generalize a.tmps[41]?.getD undef = y41 at ea
      generalize a.tmps[42]?.getD undef = y42 at ea
      generalize a.tmps[43]?.getD undef = y43 at ea
      generalize a.tmps[44]?.getD undef = y44 at ea
      generalize a.tmps[45]?.getD undef = y45 at ea
      generalize a.tmps[46]?.getD undef = y46 at ea
      generalize a.tmps[47]?.getD undef = y47 at ea
      generalize a.tmps[48]?.getD undef = y48 at ea
      generalize a.tmps[49]?.getD undef = y49 at ea
      generalize a.tmps[50]?.getD undef = y50 at ea
      generalize a.tmps[51]?.getD undef = y51 at ea
      generalize a.tmps[53]?.getD undef = y53 at ea
      generalize a.tmps[54]?.getD undef = y54 at ea
      generalize a.tmps[55]?.getD undef = y55 at ea
      generalize a.tmps[57]?.getD undef = y57 at ea
      clear hsz
      subst ea
      have bx : Below wr.heap.size wr w2 := Below.trans (Below.refl _ _).drew hx
      unfold wpOp
      simp only [List.getElem?_toArray, List.getElem?_cons_zero, List.getElem?_cons_succ]
      rw [if_pos (by rfl)]
      left
      have AI := Lib.hid (hai.ext (show Ex wr w2 from bx))
      have TI := Lib.hid (hti.ext (show Ex wr w2 from bx))
      have BI := Lib.hid (BI2.out.ext (show Ex wr w2 from bx))
      have SI := Lib.hid (isa.ext (show Ex wr w2 from bx))
      have HA3 := Lib.hid (HA.out.ext (show Ex wr w2 from bx))
      have HB3 := Lib.hid (HB.out.ext (show Ex wr w2 from bx))
      have bw3 := bw2.trans (bx.mono (by omega))
      have bz3 : w.heap.size + 2 ≤ w2.heap.size := by have := bx.size; omega
      have hsv : psa.V = .slice psa.ad ls psa.cap := by unfold Pt.V; rw [lsa, HSl.out]
      rw [← HPA.out, ← HPT.out, ← HPR.out]
      have SL := Lib.hid lsa
      obtain ⟨psV2, hpsV2⟩ : ∃ v, v = psa.V := ⟨_, rfl⟩
      have HPS2 := Lib.hid hpsV2
      rw [← hpsV2]
      clear hai hti hri BI2 HA HB isa bw2 bz2 bx hx lsa hsv IN CR hpsV2
      go_simp
      have ow0 := Lib.hid (own_empty w2 w2.heap.size (Nat.le_refl _))
      have xe : Ex w2 (w2.alloc (.cells #[] 5)) := (Below.refl _ _).alloc (Nat.le_refl _) _
      have SIe := Lib.hid (SI.out.ext xe)
      have xez := xe.size
      have XE := Lib.hid xe
      clear xe
      have hcx := hc
      go_wp2_with ((with_reducible refine at_any ?_ ?_); (focus go_simp); (refine fun K hK => wp_app_own1 (.tmp 58) (.tmp 59) rfl w2.heap.size _ [] psa ls rfl HPS2.out ow0.out SIe.out xez (by rw [SL.out, HSl.out]; simp) hls0 (by omega) (fun g cx w5 hg1 hg2 hg3 o5 b5 => hK _ _ ?_)))
      rw [List.nil_append, SL.out] at o5
      have OW := Lib.hid o5
      have x5 : Ex w2 w5 := Below.trans XE.out b5
      clear hK o5 b5 ow0 SIe xez XE
      have W1 := Lib.hid (within_any c 0 ((ls : Int) - 1) hcx (by omega) (by omega) (by omega) w5)
      refine W1.out.mono ?_
      rintro e w6 ⟨⟨k, rfl, hk0, hk1⟩, rfl⟩
      have hkl : k < ls := by omega
      obtain ⟨c1, f1⟩ := own_at OW.out HSl.out k hkl
      have XV := Lib.hid (xor_val (S.getD k 0) tu)
      obtain ⟨x, hxx⟩ : ∃ x, x = S.getD k 0 := ⟨_, rfl⟩
      rw [← hxx] at c1 XV
      have OP := Lib.hid (own_put OW.out HSl.out k (x ^^^ tu))
      obtain ⟨S2, hS2⟩ : ∃ y, y = S.set k (x ^^^ tu) := ⟨_, rfl⟩
      rw [← hS2] at OP
      have HS2l := Lib.hid (show S2.length = ls by rw [hS2, List.length_set, HSl.out])
      have x7 : Ex w2 (w6.setCell ⟨g, k, none⟩ (.int .u8 (bits .xor .u8 (x.toNat : Int) (tu.toNat : Int)))) := x5.setCell (p := ⟨g, k, none⟩) hg1 _
      rw [← XV.out] at OP
      have HA7 := Lib.hid (HA3.out.ext x7)
      have HB7 := Lib.hid (HB3.out.ext x7)
      have AI7 := Lib.hid (AI.out.ext x7)
      have TI7 := Lib.hid (TI.out.ext x7)
      have BI7 := Lib.hid (BI.out.ext x7)
      have SI7 := Lib.hid (SI.out.ext x7)
      have bw7 := bw3.trans (x7.mono (by omega))
      obtain ⟨px, hpx, pxl, pxi⟩ := own_pt0 OP.out
      have HPX := Lib.hid hpx
      have PXI := Lib.hid pxi
      clear hxx hS2 W1 OW hk0 hk1 XV OP hpx pxl pxi HA3 HB3 AI TI BI SI x5 x7 bw3
      go_wp2_with ((with_reducible refine at_any ?_ ?_); (focus go_simp); (refine fun K hK => wp_ld _ _ kl rfl rfl (HA7.out) (hK _ _ ?_)))
      obtain ⟨w7, hw7⟩ : ∃ w7, w7 = w6.setCell ⟨g, k, none⟩ (.int .u8 (bits .xor .u8 (x.toNat : Int) (tu.toNat : Int))) := ⟨_, rfl⟩
      rw [← hw7] at HA7 HB7 AI7 TI7 BI7 SI7 bw7 PXI ⊢
      clear hw7 c1 f1
      have x8 : Ex w7 w7 := Ex.refl w7
      have LK := lopen_any kl HK.out n n0 n1 pa psa w7 (AI7.out.ext x8) (SI7.out.ext x8)
      rw [← HPA.out, ← HPS2.out] at LK
      have LK := Lib.hid LK
      refine LK.out.mono ?_
      rintro e w20 ⟨rfl, y8⟩
      have x8 : Ex w7 w20 := Ex.trans x8 y8
      clear y8 LK
      go_wp2_with ((with_reducible refine at_any ?_ ?_); (focus go_simp); (refine fun K hK => wp_ld _ _ kl rfl rfl (HA7.out.ext x8) (hK _ _ ?_)))
      have LK := lopen_any kl HK.out n n0 n1 pa px w20 (AI7.out.ext x8) (PXI.out.ext x8)
      rw [← HPA.out, ← HPX.out] at LK
      have LK := Lib.hid LK
      refine LK.out.mono ?_
      rintro e w21 ⟨rfl, y8⟩
      have x8 : Ex w7 w21 := Ex.trans x8 y8
      clear y8 LK
      go_wp2_with ((with_reducible refine at_any ?_ ?_); (focus go_simp); (refine fun K hK => wp_ld _ _ ll rfl rfl (HB7.out.ext x8) (hK _ _ ?_)))
      have LK := lopen_any ll HL.out n n0 n1 pa psa w21 (AI7.out.ext x8) (SI7.out.ext x8)
      rw [← HPA.out, ← HPS2.out] at LK
      have LK := Lib.hid LK
      refine LK.out.mono ?_
      rintro e w22 ⟨rfl, y8⟩
      have x8 : Ex w7 w22 := Ex.trans x8 y8
      clear y8 LK
      go_wp2_with ((with_reducible refine at_any ?_ ?_); (focus go_simp); (refine fun K hK => wp_ld _ _ kl rfl rfl (HA7.out.ext x8) (hK _ _ ?_)))
      have LK := lopen_any kl HK.out m m0 m1 pa psa w22 (AI7.out.ext x8) (SI7.out.ext x8)
      rw [← HPA.out, ← HPS2.out] at LK
      have LK := Lib.hid LK
      refine LK.out.mono ?_
      rintro e w23 ⟨rfl, y8⟩
      have x8 : Ex w7 w23 := Ex.trans x8 y8
      clear y8 LK
      go_wp2_with ((with_reducible refine at_any ?_ ?_); (focus go_simp); (refine fun K hK => wp_ld _ _ kl rfl rfl (HA7.out.ext x8) (hK _ _ ?_)))
      have LK := lopen_any kl HK.out n n0 n1 pt psa w23 (TI7.out.ext x8) (SI7.out.ext x8)
      rw [← HPT.out, ← HPS2.out] at LK
      have LK := Lib.hid LK
      refine LK.out.mono ?_
      rintro e w24 ⟨rfl, y8⟩
      have x8 : Ex w7 w24 := Ex.trans x8 y8
      clear y8 LK
      go_wp2_with ((with_reducible refine at_any ?_ ?_); (focus go_simp); (refine fun K hK => wp_ld _ _ kl rfl rfl (HA7.out.ext x8) (hK _ _ ?_)))
      have LK := lopen_any kl HK.out n n0 n1 pa pb w24 (AI7.out.ext x8) (BI7.out.ext x8)
      rw [← HPA.out, ← HPB.out] at LK
      have LK := Lib.hid LK
      refine LK.out.mono ?_
      rintro e w25 ⟨rfl, y8⟩
      have x8 : Ex w7 w25 := Ex.trans x8 y8
      clear y8 LK
      go_wp2_with fail
      have bw8 := bw7.trans (x8.mono bw7.size)
      refine (known4_any w25).mono ?_
      rintro e w30 ⟨rfl, y8⟩
      have bw9 : Below w.heap.size w w30 := bw8.trans (y8.mono bw8.size)
      clear y8 x8 bw8
      go_wp2_with fail
      go_ret
      exact ⟨rfl, bw9⟩
theorem veilTells_law (v0 v1 : Value) (n m : Int) (v4 v5 v6 : Value) (c d : Int) (w : World) (h0 : ∃ l : List UInt8, l.length = 16 ∧ v0 = digV l) (h1 : ∃ l : List UInt8, l.length = 16 ∧ v1 = digV l) (h2 : (Lit.int .u64 n).wf = true) (h3 : (Lit.int .u64 m).wf = true)
    (h4 : ∃ p : Pt, v4 = p.V ∧ p.In w w.heap.size ∧ p.l.length ≤ 9223372036854775807) (h5 : ∃ p : Pt, v5 = p.V ∧ p.In w w.heap.size ∧ p.l.length ≤ 9223372036854775807) (h6 : ∃ p : Pt, v6 = p.V ∧ p.In w w.heap.size ∧ p.l.length ≤ 9223372036854775807) (h7 : (Lit.int .i64 c).wf = true) (h8 : (Lit.int .u8 d).wf = true) :
    Calls Try.prog 13 #[v0, v1, .int .u64 n, .int .u64 m, v4, v5, v6, .int .i64 c, .int .u8 d] w fun e w' => e = .returned (.bool true) ∧ Below w.heap.size w w' := by
  obtain ⟨A, hA, rfl⟩ := h0
  obtain ⟨B, hB, rfl⟩ := h1
  obtain ⟨p, rfl, hp, hp2⟩ := h4
  obtain ⟨q, rfl, hq, hq2⟩ := h5
  obtain ⟨r, rfl, hr, hr2⟩ := h6
  have r2 : 0 ≤ n ∧ n < 18446744073709551616 := by simp [Lit.wf, IntKind.min, IntKind.max, IntKind.signed, IntKind.bits] at h2; omega
  have r3 : 0 ≤ m ∧ m < 18446744073709551616 := by simp [Lit.wf, IntKind.min, IntKind.max, IntKind.signed, IntKind.bits] at h3; omega
  have r7 : -9223372036854775808 ≤ c ∧ c ≤ 9223372036854775807 := by simp [Lit.wf, IntKind.min, IntKind.max, IntKind.signed, IntKind.bits] at h7; omega
  have r8 : 0 ≤ d ∧ d < 256 := by simp [Lit.wf, IntKind.min, IntKind.max, IntKind.signed, IntKind.bits] at h8; omega
  have h := vtells_any A B hA hB n m r2.1 r2.2 r3.1 r3.2 p q r c r7 (by8 d) w hp hq hr hp2 hq2 hr2
  rw [by8_int, Int.emod_eq_of_lt r8.1 r8.2] at h
  exact h
end Go.Proofs.Ytkneeocicbadjaa
