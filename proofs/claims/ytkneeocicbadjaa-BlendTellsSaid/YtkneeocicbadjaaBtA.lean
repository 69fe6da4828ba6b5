/- walks: BlendTells -/
import Derived.Test.YtkneeocicbadjaaBlH
import Derived.Test.YtkneeocicbadjaaBlK
import Derived.Test.YtkneeocicbadjaaBlL
import Derived.Test.YtkneeocicbadjaaKnA
namespace Go.Proofs.Ytkneeocicbadjaa
open Go.RowKit
theorem pt_take (p : Pt) (n : Nat) (w : World) {B : Nat} (hp : p.In w B) (hn : n ≤ p.l.length) : (Pt.mk p.ad p.cap (p.l.take n)).In w B := by
  have hl : (p.l.take n).length = n := by rw [List.length_take]; omega
  refine ⟨by simp only [hl]; have := hp.cap; omega, hp.nil, fun h0 => ?_⟩
  simp only [hl] at h0 ⊢
  obtain ⟨a, o, e, ha, hcc⟩ := hp.read (by omega)
  refine ⟨a, o, e, ha, fun i hi => ?_⟩
  rw [hcc i (by omega)]
  simp [List.getD, List.getElem?_take, hi]
set_option maxHeartbeats 16000000 in
set_option maxRecDepth 100000 in
theorem btells_any (A B : List UInt8) (hAl : A.length = 16) (hBl : B.length = 16) (n c : Int) (hn0 : 0 ≤ n) (hn1 : n < 18446744073709551616) (hc : -9223372036854775808 ≤ c ∧ c ≤ 9223372036854775807) (q0 o : Pt) (w : World)
    (hq0 : q0.In w w.heap.size) (ho : o.In w w.heap.size) (hm0 : q0.l.length ≤ 9223372036854775807) :
    Calls Try.prog 4 #[digV A, digV B, .int .u64 n, .int .i64 c, q0.V, o.V] w fun e w' => e = .returned (.bool true) ∧ Below w.heap.size w w' := by
  obtain ⟨da, hda⟩ : ∃ ds, ds = Lib.byteCells A := ⟨_, rfl⟩
  have hvala : digV A = .agg da.toArray := by rw [hda]; rfl
  have hdla : da.length = 16 := by rw [hda]; simp [Lib.byteCells, hAl]
  obtain ⟨db, hdb⟩ : ∃ ds, ds = Lib.byteCells B := ⟨_, rfl⟩
  have hvalb : digV B = .agg db.toArray := by rw [hdb]; rfl
  have hdlb : db.length = 16 := by rw [hdb]; simp [Lib.byteCells, hBl]
  have hi5 := Lib.hid (show (Try.prog.info? 24).map (·.size) = some da.length by rw [sm_dsize, hdla])
  have hi6 := Lib.hid (show (Try.prog.info? 24).map (·.size) = some db.length by rw [sm_dsize, hdlb])
  obtain ⟨dd, hd⟩ : ∃ d, Try.prog.underlying 24 = some d ∧ d.isRow = true := ⟨_, Try.underlying24, rfl⟩
  have HD := Lib.hid hd
  have HVA := Lib.hid hvala
  have HVB := Lib.hid hvalb
  have HQ0 := Lib.hid hq0
  have HO := Lib.hid ho
  obtain ⟨q0V, hq0V⟩ : ∃ v, v = q0.V := ⟨_, rfl⟩
  obtain ⟨oV, hoV⟩ : ∃ v, v = o.V := ⟨_, rfl⟩
  rw [← hq0V, ← hoV, hvala, hvalb]
  have HQ0V := Lib.hid hq0V
  have HOV := Lib.hid hoV
  clear hd hda hdb hdla hdlb hvala hvalb hq0 ho hq0V hoV
  have hr1 := Lib.hid ((Bk.new (w := w) rfl 24 da.toArray).more (.cells db.toArray 24))
  have hr2 := Lib.hid ((Bk.new (w := w.alloc (.cells da.toArray 24)) (g := w.heap.size + 1) (by simp) 24 db.toArray))
  have x0 : Ex w ((w.alloc (.cells da.toArray 24)).alloc (.cells db.toArray 24)) := ((Below.refl _ _).alloc (Nat.le_refl _) _).alloc (by simp) _
  go_enter Try.func4, Try.ntmps4
  go_wp2_with fail
  generalize (w.alloc (.cells da.toArray 24)).alloc (.cells db.toArray 24) = w0 at x0 hr1 hr2 ⊢
  have C1 := Lib.hid (cut_any q0 200 (by omega) w0 (HQ0.out.ext x0) hm0)
  rw [← HQ0V.out] at C1
  refine C1.out.mono ?_
  rintro e w1 ⟨⟨q, rfl, hql, hqi⟩, rfl⟩
  obtain ⟨L, hL⟩ : ∃ L, L = q0.l.take 200 := ⟨_, rfl⟩
  rw [← hL] at hql
  have hLle : L.length ≤ 200 := by rw [hL, List.length_take]; omega
  obtain ⟨ln, hln⟩ : ∃ x, x = L.length := ⟨_, rfl⟩
  have HLl := Lib.hid hln.symm
  rw [← hln] at hLle
  have HQL := Lib.hid hql
  have HQI := Lib.hid hqi
  obtain ⟨qV, hqV⟩ : ∃ v, v = q.V := ⟨_, rfl⟩
  rw [← hqV]
  have HQV := Lib.hid hqV
  have RO := Lib.hid (roomy_any q 165 w1 hqi (by rw [hql, ← hln]; omega))
  rw [← hqV, hql, show ((165 : UInt8).toNat : Int) = 165 from rfl] at RO
  obtain ⟨LR, hLR⟩ : ∃ x, x = L ++ List.replicate 80 165 := ⟨_, rfl⟩
  rw [← hLR] at RO
  obtain ⟨nR, hnR⟩ : ∃ x, x = ln + 80 := ⟨_, rfl⟩
  have HLR := Lib.hid (show LR.length = nR by rw [hLR, padX_len, ← hln, hnR])
  have HTK := Lib.hid (show LR.take ln = L by rw [hLR, hln, List.take_left])
  have HLRd := Lib.hid hLR
  have hnR1 : ln ≤ nR := by omega
  clear C1 hql hqi hqV hL hln hLR hnR
  go_wp2_with fail
  refine RO.out.mono ?_
  rintro e w2 ⟨r, rfl, hrl, hri, x2⟩
  have HRL := Lib.hid hrl
  have HRI := Lib.hid hri
  obtain ⟨rV, hrV⟩ : ∃ v, v = r.V := ⟨_, rfl⟩
  rw [← hrV]
  have HRV := Lib.hid hrV
  clear RO hrl hri hrV
  have WI := Lib.hid (within_any c 0 100 hc (by omega) (by omega) (by omega) w2)
  go_wp2_with fail
  refine WI.out.mono ?_
  rintro e w3 ⟨⟨m, rfl, hm1, hm2⟩, rfl⟩
  clear WI hm1
  have xx : Ex w w3 := x0.trans x2
  have RA := Lib.hid (hr1.out.ext x2).range
  have RB := Lib.hid (hr2.out.ext x2).range
  have gl1 := (hr1.out.ext x2).lt
  have gl2 := (hr2.out.ext x2).lt
  have hqi := HQI.out.ext x2
  have hql := HQL.out
  have hri := HRI.out
  have hrl := HRL.out
  have hoi := HO.out.ext xx
  obtain ⟨O, hO⟩ : ∃ O, O = o.l := ⟨_, rfl⟩
  have hol : o.l = O := hO.symm
  have bw : Below w.heap.size w w3 := xx
  have bz := bw.size
  clear hr1 hr2 x0 x2 xx hO
  obtain ⟨D, hD⟩ : ∃ D, D = sumL L := ⟨_, rfl⟩
  have hDl : D.length = 16 := by rw [hD]; rfl
  have SR := Lib.hid (show ∀ (W : World) (p : Pt), p.l = L → p.In W W.heap.size → Calls Try.prog 20 #[p.V] W fun e w' => e = .returned (digV D) ∧ Below W.heap.size W w' from fun W p hp hi => by
    have h := rsum_pt p W hi (by rw [hp, HLl.out]; omega)
    rw [hp, ← hD] at h; exact h)
  have SB := Lib.hid (show ∀ (W : World) (p : Pt), p.l = L → p.In W W.heap.size → Calls Try.prog 21 #[p.V] W fun e w' => e = .returned (digV D) ∧ Below W.heap.size W w' from fun W p hp hi => by
    have h := sum_pt p W hi (by rw [hp, HLl.out]; omega)
    rw [hp, ← hD] at h; exact h)
  obtain ⟨Ky, hK0⟩ : ∃ K, K = sumL (A ++ L) := ⟨_, rfl⟩
  have hKyl : Ky.length = 16 := by rw [hK0]; rfl
  have KB := Lib.hid (show ∀ (W : World) (p : Pt), p.l = L → p.In W W.heap.size → Calls Try.prog 22 #[digV A, p.V] W fun e w' => e = .returned (digV Ky) ∧ Below W.heap.size W w' from fun W p hp hi => by
    have h := keyed_any A hAl p W hi (by rw [hp, HLl.out]; omega)
    rw [hp, ← hK0] at h; exact h)
  have KR := Lib.hid (show ∀ (W : World) (p : Pt), p.l = L → p.In W W.heap.size → Calls Try.prog 23 #[digV A, p.V] W fun e w' => e = .returned (digV Ky) ∧ Below W.heap.size W w' from fun W p hp hi => by
    have h := rkeyed_any A hAl p W hi (by rw [hp, HLl.out]; omega)
    rw [hp, ← hK0] at h; exact h)
  obtain ⟨X, hX⟩ : ∃ X, X = sumL (A ++ B) := ⟨_, rfl⟩
  have hXl : X.length = 16 := by rw [hX]; rfl
  have TB := Lib.hid (show ∀ W : World, Calls Try.prog 24 #[digV A, digV B] W fun e w' => e = .returned (digV X) ∧ Below W.heap.size W w' from fun W => by
    have h := two_any A B hAl hBl W
    rw [← hX] at h; exact h)
  have TR := Lib.hid (show ∀ W : World, Calls Try.prog 25 #[digV A, digV B] W fun e w' => e = .returned (digV X) ∧ Below W.heap.size W w' from fun W => by
    have h := rtwo_any A B hAl hBl W
    rw [← hX] at h; exact h)
  obtain ⟨Z, hZ⟩ : ∃ Z, Z = streamL A n m := ⟨_, rfl⟩
  have STB := Lib.hid (show ∀ W : World, Calls Try.prog 26 #[digV A, .int .u64 n, .int .i64 m] W (PtPost Z W) from fun W => by
    rw [hZ]; exact stream_any A hAl n hn0 hn1 m (by omega) W)
  have STR := Lib.hid (show ∀ W : World, Calls Try.prog 27 #[digV A, .int .u64 n, .int .i64 m] W (PtPost Z W) from fun W => by
    rw [hZ]; exact rstream_any A hAl n hn0 hn1 m (by omega) W)
  obtain ⟨Nu, hNu⟩ : ∃ x, x = numL n := ⟨_, rfl⟩
  have NB := Lib.hid (show ∀ W : World, Calls Try.prog 32 #[.int .u64 n] W (PtPost Nu W) from fun W => by rw [hNu]; exact numberP n hn0 hn1 W)
  have NR := Lib.hid (show ∀ W : World, Calls Try.prog 33 #[.int .u64 n] W (PtPost Nu W) from fun W => by rw [hNu]; exact rnumberP n hn0 hn1 W)
  obtain ⟨bq, hbq⟩ : ∃ b, b = decide (L = O) := ⟨_, rfl⟩
  have HBQ := Lib.hid hbq.symm
  have IN := Lib.hid (show ∀ (W : World) (p q : Pt), p.l = LR → q.l = L → p.In W W.heap.size → q.In W W.heap.size → Calls Try.prog 35 #[p.V, q.V, .int .u8 165] W fun e w' => e = .returned (.bool true) ∧ Below W.heap.size W w' from fun W p q h1 h2 i1 i2 =>
    intact_any p q 165 W i1 i2 (by rw [h2, HLl.out]; omega) (by rw [h1, h2]; exact HLRd.out))
  have KN := Lib.hid known2_any
  clear hbq hNu hZ hX hK0 hD HLRd HQI HRI HO
  go_wp2_with fail
  rw [HQV.out, HRV.out, HOV.out]
  generalize w3 = wr at *
  simp only [List.append_eq, List.cons_append, List.nil_append]
  obtain ⟨T, hT⟩ : ∃ T : List As, T = [.pt LR, .pt L, .is (.int .i64 ln), .pt L, .is (digV D), .pt L, .is (digV D), .is (.bool true), .is (.bool true), .is (digV A), .pt L, .is (digV Ky), .is (digV A), .pt L, .is (digV Ky), .is (.bool true), .is (.bool true), .is (.bool true), .is (digV A), .is (digV B), .is (digV X), .is (digV A), .is (digV B), .is (digV X), .is (.bool true), .is (.bool true), .is (.bool true), .is (digV A), .is (.int .u64 n), .is (.int .i64 m), .pt Z, .is (.string (strL Z)), .is (digV A), .is (.int .u64 n), .is (.int .i64 m), .pt Z, .is (.string (strL Z)), .is (.bool true), .is (.bool true), .is (.bool true), .is (.int .u64 n), .pt Nu, .is (.string (strL Nu)), .is (.int .u64 n), .pt Nu, .is (.string (strL Nu)), .is (.bool true), .is (.bool true), .is (.bool true), .pt L, .pt O, .is (.bool bq), .pt L, .is (.string (strL L)), .pt O, .is (.string (strL O)), .is (.bool bq), .is (.bool true), .is (.bool true), .is (.bool true), .pt L, .full [], .pt L, .pt L, .is (.bool true), .is (.bool true), .is (.bool true), .pt LR, .pt L, .is (.bool true), .is (.bool true), .is (.bool true), .is (.bool true), .is (.bool true)] := ⟨_, rfl⟩
  refine wp_region_flow 74 (tabPhi T) (by kernel_rfl) rfl (by kernel_rfl) (by kernel_rfl) (by kernel_rfl) (tabPhi_stable T) (fitB_spec (by kernel_rfl)) ?_ ?_
  · intro i o hi ho
    have hi' : i = 0 ∨ i = 1 ∨ i = 2 ∨ i = 3 ∨ i = 4 ∨ i = 5 ∨ i = 6 ∨ i = 7 ∨ i = 8 ∨ i = 9 ∨ i = 10 ∨ i = 11 ∨ i = 12 ∨ i = 13 ∨ i = 14 ∨ i = 15 ∨ i = 16 ∨ i = 17 ∨ i = 18 ∨ i = 19 ∨ i = 20 ∨ i = 21 ∨ i = 22 ∨ i = 23 ∨ i = 24 ∨ i = 25 ∨ i = 26 ∨ i = 27 ∨ i = 28 ∨ i = 29 ∨ i = 30 ∨ i = 31 ∨ i = 32 ∨ i = 33 ∨ i = 34 ∨ i = 35 ∨ i = 36 ∨ i = 37 ∨ i = 38 ∨ i = 39 ∨ i = 40 ∨ i = 41 ∨ i = 42 ∨ i = 43 ∨ i = 44 ∨ i = 45 ∨ i = 46 ∨ i = 47 ∨ i = 48 ∨ i = 49 ∨ i = 50 ∨ i = 51 ∨ i = 52 ∨ i = 53 ∨ i = 54 ∨ i = 55 ∨ i = 56 ∨ i = 57 ∨ i = 58 ∨ i = 59 ∨ i = 60 ∨ i = 61 ∨ i = 62 ∨ i = 63 ∨ i = 64 ∨ i = 65 ∨ i = 66 ∨ i = 67 ∨ i = 68 ∨ i = 69 ∨ i = 70 ∨ i = 71 ∨ i = 72 ∨ i = 73 := by omega
    rcases hi' with rfl | rfl | rfl | rfl | rfl | rfl | rfl | rfl | rfl | rfl | rfl | rfl | rfl | rfl | rfl | rfl | rfl | rfl | rfl | rfl | rfl | rfl | rfl | rfl | rfl | rfl | rfl | rfl | rfl | rfl | rfl | rfl | rfl | rfl | rfl | rfl | rfl | rfl | rfl | rfl | rfl | rfl | rfl | rfl | rfl | rfl | rfl | rfl | rfl | rfl | rfl | rfl | rfl | rfl | rfl | rfl | rfl | rfl | rfl | rfl | rfl | rfl | rfl | rfl | rfl | rfl | rfl | rfl | rfl | rfl | rfl | rfl | rfl | rfl
    all_goals (simp only [List.getElem?_toArray, List.getElem?_cons_zero, List.getElem?_cons_succ, Option.some.injEq] at ho; subst ho; intro a w2 hx hsz hdep hout)
    · rw [if_pos (by rfl)]
      intro K hK
      have f := hout 13 (outB_spec (by kernel_rfl))
      exact wp_mv _ rfl (hK _ _ (Ex.refl _) (by rw [hT]; exact ⟨r, f, hrl, hri.ext (Ex.trans (show Ex wr wr.drew from (Below.refl _ _).drew) hx)⟩))
    · rw [if_pos (by rfl)]
      intro K hK
      have f := hout 4 (outB_spec (by kernel_rfl))
      exact wp_mv _ rfl (hK _ _ (Ex.refl _) (by rw [hT]; exact ⟨q, f, hql, hqi.ext (Ex.trans (show Ex wr wr.drew from (Below.refl _ _).drew) hx)⟩))
    · rw [if_pos (by rfl)]
      intro K hK
      obtain ⟨v, hv, kv⟩ := hdep ⟨1, .data⟩ (by simp) rfl _ rfl
      have qv := kv _ rfl
      rw [hT] at hv
      obtain ⟨pv, rfl, lv, iv⟩ := hv
      have q : a.tmps[22]?.getD undef = .slice pv.ad ln pv.cap := by rw [← Array.getD_eq_getD_getElem?, qv]; unfold Pt.V; rw [lv, HLl.out]
      clear hsz hdep hout qv kv lv
      go_simp
      exact hK _ _ (Ex.refl _) (by rw [hT]; rfl)
    · rw [if_pos (by rfl)]
      intro K hK
      obtain ⟨v, hv, kv⟩ := hdep ⟨0, .data⟩ (by simp) rfl _ rfl
      have qv := kv _ rfl
      rw [hT] at hv
      obtain ⟨pv, rfl, lv, iv⟩ := hv
      obtain ⟨u, hu, ku⟩ := hdep ⟨2, .data⟩ (by simp) rfl _ rfl
      have qu := ku _ rfl
      rw [hT] at hu
      obtain rfl : u = .int .i64 ln := hu
      have q1 : a.tmps[21]?.getD undef = .slice pv.ad nR pv.cap := by rw [← Array.getD_eq_getD_getElem?, qv]; unfold Pt.V; rw [lv, HLR.out]
      have q2 : a.tmps[23]?.getD undef = .int .i64 ln := by rw [← Array.getD_eq_getD_getElem?]; exact qu
      have hc1 : ln ≤ pv.cap := by have := iv.cap; rw [lv, HLR.out] at this; omega
      have PT := Lib.hid (pt_take pv ln w2 iv (by rw [lv, HLR.out]; omega))
      rw [lv, HTK.out] at PT
      have LV := Lib.hid lv
      clear hsz hdep hout qv kv qu ku lv
      go_simp
      exact hK _ _ (Ex.refl _) (by rw [hT]; exact ⟨_, (by unfold Pt.V; rw [HLl.out]), rfl, PT.out⟩)
    · rw [if_pos (by rfl)]
      intro K hK
      obtain ⟨v, hv, kv⟩ := hdep ⟨3, .data⟩ (by simp) rfl _ rfl
      have qv := kv _ rfl
      rw [hT] at hv
      obtain ⟨pv, rfl, lv, iv⟩ := hv
      go_simp
      refine (SB.out w2 pv lv iv).mono ?_
      rintro e w3 ⟨rfl, hex⟩
      exact hK _ _ hex (by rw [hT]; rfl)
    · rw [if_pos (by rfl)]
      intro K hK
      have f := hout 4 (outB_spec (by kernel_rfl))
      exact wp_mv _ rfl (hK _ _ (Ex.refl _) (by rw [hT]; exact ⟨q, f, hql, hqi.ext (Ex.trans (show Ex wr wr.drew from (Below.refl _ _).drew) hx)⟩))
    · rw [if_pos (by rfl)]
      intro K hK
      obtain ⟨v, hv, kv⟩ := hdep ⟨5, .data⟩ (by simp) rfl _ rfl
      have qv := kv _ rfl
      rw [hT] at hv
      obtain ⟨pv, rfl, lv, iv⟩ := hv
      go_simp
      refine (SR.out w2 pv lv iv).mono ?_
      rintro e w3 ⟨rfl, hex⟩
      exact hK _ _ hex (by rw [hT]; rfl)
    · rw [if_pos (by rfl)]
      intro K hK
      obtain ⟨v, hv, kv⟩ := hdep ⟨4, .data⟩ (by simp) rfl _ rfl
      have qv := kv _ rfl
      rw [hT] at hv
      obtain rfl : v = digV D := hv
      obtain ⟨u, hu, ku⟩ := hdep ⟨6, .data⟩ (by simp) rfl _ rfl
      have qu := ku _ rfl
      rw [hT] at hu
      obtain rfl : u = digV D := hu
      exact wp_eql_dig _ _ _ rfl D D hDl hDl qv qu (hK _ _ (Ex.refl _) (by rw [hT, decide_eq_true rfl]; rfl))
    · rw [if_pos (by rfl)]
      intro K hK
      obtain ⟨v, hv, kv⟩ := hdep ⟨7, .data⟩ (by simp) rfl _ rfl
      have qv := kv _ rfl
      rw [hT] at hv
      obtain rfl : v = .bool true := hv
      exact wp_mv _ rfl (hK _ _ (Ex.refl _) (by rw [hT]; exact qv))
    · obtain ⟨vg, hvg, kg⟩ := hdep ⟨8, .guard⟩ (by simp) rfl _ rfl
      rw [hT] at hvg
      obtain rfl : vg = .bool true := hvg
      rw [if_pos (wanted_of rfl rfl rfl (kg _ rfl))]
      intro K hK
      have f := hout 6 (outB_spec (by kernel_rfl))
      exact wp_load_mid 24 _ rfl w.heap.size 0 f da dd (fun x v hv => (hx.cell (p := ⟨w.heap.size, 0 + x, none⟩) (by show w.heap.size < wr.heap.size; omega)).trans (RA.out x v hv)) HD.out.1 HD.out.2 hi5.out (hK _ _ (Ex.refl _) (by rw [hT]; exact HVA.out.symm))
    · obtain ⟨vg, hvg, kg⟩ := hdep ⟨8, .guard⟩ (by simp) rfl _ rfl
      rw [hT] at hvg
      obtain rfl : vg = .bool true := hvg
      rw [if_pos (wanted_of rfl rfl rfl (kg _ rfl))]
      intro K hK
      have f := hout 4 (outB_spec (by kernel_rfl))
      exact wp_mv _ rfl (hK _ _ (Ex.refl _) (by rw [hT]; exact ⟨q, f, hql, hqi.ext (Ex.trans (show Ex wr wr.drew from (Below.refl _ _).drew) hx)⟩))
    · obtain ⟨vg, hvg, kg⟩ := hdep ⟨8, .guard⟩ (by simp) rfl _ rfl
      rw [hT] at hvg
      obtain rfl : vg = .bool true := hvg
      rw [if_pos (wanted_of rfl rfl rfl (kg _ rfl))]
      intro K hK
      obtain ⟨v, hv, kv⟩ := hdep ⟨9, .data⟩ (by simp) rfl _ rfl
      have qv := kv _ rfl
      rw [hT] at hv
      obtain rfl : v = digV A := hv
      obtain ⟨u, hu, ku⟩ := hdep ⟨10, .data⟩ (by simp) rfl _ rfl
      have qu := ku _ rfl
      rw [hT] at hu
      obtain ⟨pu, rfl, lu, iu⟩ := hu
      go_simp
      refine (KB.out w2 pu lu iu).mono ?_
      rintro e w3 ⟨rfl, hex⟩
      exact hK _ _ hex (by rw [hT]; rfl)
    · obtain ⟨vg, hvg, kg⟩ := hdep ⟨8, .guard⟩ (by simp) rfl _ rfl
      rw [hT] at hvg
      obtain rfl : vg = .bool true := hvg
      rw [if_pos (wanted_of rfl rfl rfl (kg _ rfl))]
      intro K hK
      have f := hout 6 (outB_spec (by kernel_rfl))
      exact wp_load_mid 24 _ rfl w.heap.size 0 f da dd (fun x v hv => (hx.cell (p := ⟨w.heap.size, 0 + x, none⟩) (by show w.heap.size < wr.heap.size; omega)).trans (RA.out x v hv)) HD.out.1 HD.out.2 hi5.out (hK _ _ (Ex.refl _) (by rw [hT]; exact HVA.out.symm))
    · obtain ⟨vg, hvg, kg⟩ := hdep ⟨8, .guard⟩ (by simp) rfl _ rfl
      rw [hT] at hvg
      obtain rfl : vg = .bool true := hvg
      rw [if_pos (wanted_of rfl rfl rfl (kg _ rfl))]
      intro K hK
      have f := hout 4 (outB_spec (by kernel_rfl))
      exact wp_mv _ rfl (hK _ _ (Ex.refl _) (by rw [hT]; exact ⟨q, f, hql, hqi.ext (Ex.trans (show Ex wr wr.drew from (Below.refl _ _).drew) hx)⟩))
    · obtain ⟨vg, hvg, kg⟩ := hdep ⟨8, .guard⟩ (by simp) rfl _ rfl
      rw [hT] at hvg
      obtain rfl : vg = .bool true := hvg
      rw [if_pos (wanted_of rfl rfl rfl (kg _ rfl))]
      intro K hK
      obtain ⟨v, hv, kv⟩ := hdep ⟨12, .data⟩ (by simp) rfl _ rfl
      have qv := kv _ rfl
      rw [hT] at hv
      obtain rfl : v = digV A := hv
      obtain ⟨u, hu, ku⟩ := hdep ⟨13, .data⟩ (by simp) rfl _ rfl
      have qu := ku _ rfl
      rw [hT] at hu
      obtain ⟨pu, rfl, lu, iu⟩ := hu
      go_simp
      refine (KR.out w2 pu lu iu).mono ?_
      rintro e w3 ⟨rfl, hex⟩
      exact hK _ _ hex (by rw [hT]; rfl)
    · obtain ⟨vg, hvg, kg⟩ := hdep ⟨8, .guard⟩ (by simp) rfl _ rfl
      rw [hT] at hvg
      obtain rfl : vg = .bool true := hvg
      rw [if_pos (wanted_of rfl rfl rfl (kg _ rfl))]
      intro K hK
      obtain ⟨v, hv, kv⟩ := hdep ⟨11, .data⟩ (by simp) rfl _ rfl
      have qv := kv _ rfl
      rw [hT] at hv
      obtain rfl : v = digV Ky := hv
      obtain ⟨u, hu, ku⟩ := hdep ⟨14, .data⟩ (by simp) rfl _ rfl
      have qu := ku _ rfl
      rw [hT] at hu
      obtain rfl : u = digV Ky := hu
      exact wp_eql_dig _ _ _ rfl Ky Ky hKyl hKyl qv qu (hK _ _ (Ex.refl _) (by rw [hT, decide_eq_true rfl]; rfl))
    · rw [if_pos (by rfl)]
      intro K hK
      obtain ⟨v, hv, kv⟩ := hdep ⟨8, .data⟩ (by simp) rfl _ rfl
      have qv := kv _ rfl
      rw [hT] at hv
      obtain rfl : v = .bool true := hv
      obtain ⟨u, hu, ku⟩ := hdep ⟨15, .data⟩ (by simp) rfl _ rfl
      have qu := ku _ rfl
      rw [hT] at hu
      obtain rfl : u = .bool true := hu
      clear hsz hdep hout
      go_simp
      exact hK _ _ (Ex.refl _) (by rw [hT]; rfl)
    · rw [if_pos (by rfl)]
      intro K hK
      obtain ⟨v, hv, kv⟩ := hdep ⟨16, .data⟩ (by simp) rfl _ rfl
      have qv := kv _ rfl
      rw [hT] at hv
      obtain rfl : v = .bool true := hv
      exact wp_mv _ rfl (hK _ _ (Ex.refl _) (by rw [hT]; exact qv))
    · obtain ⟨vg, hvg, kg⟩ := hdep ⟨17, .guard⟩ (by simp) rfl _ rfl
      rw [hT] at hvg
      obtain rfl : vg = .bool true := hvg
      rw [if_pos (wanted_of rfl rfl rfl (kg _ rfl))]
      intro K hK
      have f := hout 6 (outB_spec (by kernel_rfl))
      exact wp_load_mid 24 _ rfl w.heap.size 0 f da dd (fun x v hv => (hx.cell (p := ⟨w.heap.size, 0 + x, none⟩) (by show w.heap.size < wr.heap.size; omega)).trans (RA.out x v hv)) HD.out.1 HD.out.2 hi5.out (hK _ _ (Ex.refl _) (by rw [hT]; exact HVA.out.symm))
    · obtain ⟨vg, hvg, kg⟩ := hdep ⟨17, .guard⟩ (by simp) rfl _ rfl
      rw [hT] at hvg
      obtain rfl : vg = .bool true := hvg
      rw [if_pos (wanted_of rfl rfl rfl (kg _ rfl))]
      intro K hK
      have f := hout 7 (outB_spec (by kernel_rfl))
      exact wp_load_mid 24 _ rfl (w.heap.size + 1) 0 f db dd (fun x v hv => (hx.cell (p := ⟨(w.heap.size + 1), 0 + x, none⟩) (by show (w.heap.size + 1) < wr.heap.size; omega)).trans (RB.out x v hv)) HD.out.1 HD.out.2 hi6.out (hK _ _ (Ex.refl _) (by rw [hT]; exact HVB.out.symm))
    · obtain ⟨vg, hvg, kg⟩ := hdep ⟨17, .guard⟩ (by simp) rfl _ rfl
      rw [hT] at hvg
      obtain rfl : vg = .bool true := hvg
      rw [if_pos (wanted_of rfl rfl rfl (kg _ rfl))]
      intro K hK
      obtain ⟨v, hv, kv⟩ := hdep ⟨18, .data⟩ (by simp) rfl _ rfl
      have qv := kv _ rfl
      rw [hT] at hv
      obtain rfl : v = digV A := hv
      obtain ⟨u, hu, ku⟩ := hdep ⟨19, .data⟩ (by simp) rfl _ rfl
      have qu := ku _ rfl
      rw [hT] at hu
      obtain rfl : u = digV B := hu
      go_simp
      refine (TB.out w2).mono ?_
      rintro e w3 ⟨rfl, hex⟩
      exact hK _ _ hex (by rw [hT]; rfl)
    · obtain ⟨vg, hvg, kg⟩ := hdep ⟨17, .guard⟩ (by simp) rfl _ rfl
      rw [hT] at hvg
      obtain rfl : vg = .bool true := hvg
      rw [if_pos (wanted_of rfl rfl rfl (kg _ rfl))]
      intro K hK
      have f := hout 6 (outB_spec (by kernel_rfl))
      exact wp_load_mid 24 _ rfl w.heap.size 0 f da dd (fun x v hv => (hx.cell (p := ⟨w.heap.size, 0 + x, none⟩) (by show w.heap.size < wr.heap.size; omega)).trans (RA.out x v hv)) HD.out.1 HD.out.2 hi5.out (hK _ _ (Ex.refl _) (by rw [hT]; exact HVA.out.symm))
    · obtain ⟨vg, hvg, kg⟩ := hdep ⟨17, .guard⟩ (by simp) rfl _ rfl
      rw [hT] at hvg
      obtain rfl : vg = .bool true := hvg
      rw [if_pos (wanted_of rfl rfl rfl (kg _ rfl))]
      intro K hK
      have f := hout 7 (outB_spec (by kernel_rfl))
      exact wp_load_mid 24 _ rfl (w.heap.size + 1) 0 f db dd (fun x v hv => (hx.cell (p := ⟨(w.heap.size + 1), 0 + x, none⟩) (by show (w.heap.size + 1) < wr.heap.size; omega)).trans (RB.out x v hv)) HD.out.1 HD.out.2 hi6.out (hK _ _ (Ex.refl _) (by rw [hT]; exact HVB.out.symm))
    · obtain ⟨vg, hvg, kg⟩ := hdep ⟨17, .guard⟩ (by simp) rfl _ rfl
      rw [hT] at hvg
      obtain rfl : vg = .bool true := hvg
      rw [if_pos (wanted_of rfl rfl rfl (kg _ rfl))]
      intro K hK
      obtain ⟨v, hv, kv⟩ := hdep ⟨21, .data⟩ (by simp) rfl _ rfl
      have qv := kv _ rfl
      rw [hT] at hv
      obtain rfl : v = digV A := hv
      obtain ⟨u, hu, ku⟩ := hdep ⟨22, .data⟩ (by simp) rfl _ rfl
      have qu := ku _ rfl
      rw [hT] at hu
      obtain rfl : u = digV B := hu
      go_simp
      refine (TR.out w2).mono ?_
      rintro e w3 ⟨rfl, hex⟩
      exact hK _ _ hex (by rw [hT]; rfl)
    · obtain ⟨vg, hvg, kg⟩ := hdep ⟨17, .guard⟩ (by simp) rfl _ rfl
      rw [hT] at hvg
      obtain rfl : vg = .bool true := hvg
      rw [if_pos (wanted_of rfl rfl rfl (kg _ rfl))]
      intro K hK
      obtain ⟨v, hv, kv⟩ := hdep ⟨20, .data⟩ (by simp) rfl _ rfl
      have qv := kv _ rfl
      rw [hT] at hv
      obtain rfl : v = digV X := hv
      obtain ⟨u, hu, ku⟩ := hdep ⟨23, .data⟩ (by simp) rfl _ rfl
      have qu := ku _ rfl
      rw [hT] at hu
      obtain rfl : u = digV X := hu
      exact wp_eql_dig _ _ _ rfl X X hXl hXl qv qu (hK _ _ (Ex.refl _) (by rw [hT, decide_eq_true rfl]; rfl))
    · rw [if_pos (by rfl)]
      intro K hK
      obtain ⟨v, hv, kv⟩ := hdep ⟨17, .data⟩ (by simp) rfl _ rfl
      have qv := kv _ rfl
      rw [hT] at hv
      obtain rfl : v = .bool true := hv
      obtain ⟨u, hu, ku⟩ := hdep ⟨24, .data⟩ (by simp) rfl _ rfl
      have qu := ku _ rfl
      rw [hT] at hu
      obtain rfl : u = .bool true := hu
      clear hsz hdep hout
      go_simp
      exact hK _ _ (Ex.refl _) (by rw [hT]; rfl)
    · rw [if_pos (by rfl)]
      intro K hK
      obtain ⟨v, hv, kv⟩ := hdep ⟨25, .data⟩ (by simp) rfl _ rfl
      have qv := kv _ rfl
      rw [hT] at hv
      obtain rfl : v = .bool true := hv
      exact wp_mv _ rfl (hK _ _ (Ex.refl _) (by rw [hT]; exact qv))
    · obtain ⟨vg, hvg, kg⟩ := hdep ⟨26, .guard⟩ (by simp) rfl _ rfl
      rw [hT] at hvg
      obtain rfl : vg = .bool true := hvg
      rw [if_pos (wanted_of rfl rfl rfl (kg _ rfl))]
      intro K hK
      have f := hout 6 (outB_spec (by kernel_rfl))
      exact wp_load_mid 24 _ rfl w.heap.size 0 f da dd (fun x v hv => (hx.cell (p := ⟨w.heap.size, 0 + x, none⟩) (by show w.heap.size < wr.heap.size; omega)).trans (RA.out x v hv)) HD.out.1 HD.out.2 hi5.out (hK _ _ (Ex.refl _) (by rw [hT]; exact HVA.out.symm))
    · obtain ⟨vg, hvg, kg⟩ := hdep ⟨26, .guard⟩ (by simp) rfl _ rfl
      rw [hT] at hvg
      obtain rfl : vg = .bool true := hvg
      rw [if_pos (wanted_of rfl rfl rfl (kg _ rfl))]
      intro K hK
      have f := hout 2 (outB_spec (by kernel_rfl))
      exact wp_mv _ rfl (hK _ _ (Ex.refl _) (by rw [hT]; exact f))
    · obtain ⟨vg, hvg, kg⟩ := hdep ⟨26, .guard⟩ (by simp) rfl _ rfl
      rw [hT] at hvg
      obtain rfl : vg = .bool true := hvg
      rw [if_pos (wanted_of rfl rfl rfl (kg _ rfl))]
      intro K hK
      have f := hout 14 (outB_spec (by kernel_rfl))
      exact wp_mv _ rfl (hK _ _ (Ex.refl _) (by rw [hT]; exact f))
    · obtain ⟨vg, hvg, kg⟩ := hdep ⟨26, .guard⟩ (by simp) rfl _ rfl
      rw [hT] at hvg
      obtain rfl : vg = .bool true := hvg
      rw [if_pos (wanted_of rfl rfl rfl (kg _ rfl))]
      intro K hK
      obtain ⟨v, hv, kv⟩ := hdep ⟨27, .data⟩ (by simp) rfl _ rfl
      have qv := kv _ rfl
      rw [hT] at hv
      obtain rfl : v = digV A := hv
      obtain ⟨u, hu, ku⟩ := hdep ⟨28, .data⟩ (by simp) rfl _ rfl
      have qu := ku _ rfl
      rw [hT] at hu
      obtain rfl : u = .int .u64 n := hu
      obtain ⟨x, hx, kx⟩ := hdep ⟨29, .data⟩ (by simp) rfl _ rfl
      have qx := kx _ rfl
      rw [hT] at hx
      obtain rfl : x = .int .i64 m := hx
      go_simp
      refine (STB.out w2).mono ?_
      rintro e w3 ⟨p, rfl, hl, hin, hex⟩
      exact hK _ _ hex (by rw [hT]; exact ⟨p, rfl, hl, hin⟩)
    · obtain ⟨vg, hvg, kg⟩ := hdep ⟨26, .guard⟩ (by simp) rfl _ rfl
      rw [hT] at hvg
      obtain rfl : vg = .bool true := hvg
      rw [if_pos (wanted_of rfl rfl rfl (kg _ rfl))]
      intro K hK
      obtain ⟨v, hv, kv⟩ := hdep ⟨30, .data⟩ (by simp) rfl _ rfl
      have qv := kv _ rfl
      rw [hT] at hv
      obtain ⟨pv, rfl, lv, iv⟩ := hv
      have cv := pt_conv pv w2 iv
      rw [lv] at cv
      have q : a.tmps[51]?.getD undef = .slice pv.ad (Z).length pv.cap := by rw [← Array.getD_eq_getD_getElem?, qv]; unfold Pt.V; rw [lv]
      generalize (Z).length = nn at cv q
      clear hsz hdep hout qv kv lv kg
      go_simp
      exact hK _ _ (Ex.refl _) (by rw [hT]; rfl)
    · obtain ⟨vg, hvg, kg⟩ := hdep ⟨26, .guard⟩ (by simp) rfl _ rfl
      rw [hT] at hvg
      obtain rfl : vg = .bool true := hvg
      rw [if_pos (wanted_of rfl rfl rfl (kg _ rfl))]
      intro K hK
      have f := hout 6 (outB_spec (by kernel_rfl))
      exact wp_load_mid 24 _ rfl w.heap.size 0 f da dd (fun x v hv => (hx.cell (p := ⟨w.heap.size, 0 + x, none⟩) (by show w.heap.size < wr.heap.size; omega)).trans (RA.out x v hv)) HD.out.1 HD.out.2 hi5.out (hK _ _ (Ex.refl _) (by rw [hT]; exact HVA.out.symm))
    · obtain ⟨vg, hvg, kg⟩ := hdep ⟨26, .guard⟩ (by simp) rfl _ rfl
      rw [hT] at hvg
      obtain rfl : vg = .bool true := hvg
      rw [if_pos (wanted_of rfl rfl rfl (kg _ rfl))]
      intro K hK
      have f := hout 2 (outB_spec (by kernel_rfl))
      exact wp_mv _ rfl (hK _ _ (Ex.refl _) (by rw [hT]; exact f))
    · obtain ⟨vg, hvg, kg⟩ := hdep ⟨26, .guard⟩ (by simp) rfl _ rfl
      rw [hT] at hvg
      obtain rfl : vg = .bool true := hvg
      rw [if_pos (wanted_of rfl rfl rfl (kg _ rfl))]
      intro K hK
      have f := hout 14 (outB_spec (by kernel_rfl))
      exact wp_mv _ rfl (hK _ _ (Ex.refl _) (by rw [hT]; exact f))
    · obtain ⟨vg, hvg, kg⟩ := hdep ⟨26, .guard⟩ (by simp) rfl _ rfl
      rw [hT] at hvg
      obtain rfl : vg = .bool true := hvg
      rw [if_pos (wanted_of rfl rfl rfl (kg _ rfl))]
      intro K hK
      obtain ⟨v, hv, kv⟩ := hdep ⟨32, .data⟩ (by simp) rfl _ rfl
      have qv := kv _ rfl
      rw [hT] at hv
      obtain rfl : v = digV A := hv
      obtain ⟨u, hu, ku⟩ := hdep ⟨33, .data⟩ (by simp) rfl _ rfl
      have qu := ku _ rfl
      rw [hT] at hu
      obtain rfl : u = .int .u64 n := hu
      obtain ⟨x, hx, kx⟩ := hdep ⟨34, .data⟩ (by simp) rfl _ rfl
      have qx := kx _ rfl
      rw [hT] at hx
      obtain rfl : x = .int .i64 m := hx
      go_simp
      refine (STR.out w2).mono ?_
      rintro e w3 ⟨p, rfl, hl, hin, hex⟩
      exact hK _ _ hex (by rw [hT]; exact ⟨p, rfl, hl, hin⟩)
    · obtain ⟨vg, hvg, kg⟩ := hdep ⟨26, .guard⟩ (by simp) rfl _ rfl
      rw [hT] at hvg
      obtain rfl : vg = .bool true := hvg
      rw [if_pos (wanted_of rfl rfl rfl (kg _ rfl))]
      intro K hK
      obtain ⟨v, hv, kv⟩ := hdep ⟨35, .data⟩ (by simp) rfl _ rfl
      have qv := kv _ rfl
      rw [hT] at hv
      obtain ⟨pv, rfl, lv, iv⟩ := hv
      have cv := pt_conv pv w2 iv
      rw [lv] at cv
      have q : a.tmps[56]?.getD undef = .slice pv.ad (Z).length pv.cap := by rw [← Array.getD_eq_getD_getElem?, qv]; unfold Pt.V; rw [lv]
      generalize (Z).length = nn at cv q
      clear hsz hdep hout qv kv lv kg
      go_simp
      exact hK _ _ (Ex.refl _) (by rw [hT]; rfl)
    · obtain ⟨vg, hvg, kg⟩ := hdep ⟨26, .guard⟩ (by simp) rfl _ rfl
      rw [hT] at hvg
      obtain rfl : vg = .bool true := hvg
      rw [if_pos (wanted_of rfl rfl rfl (kg _ rfl))]
      intro K hK
      obtain ⟨v, hv, kv⟩ := hdep ⟨31, .data⟩ (by simp) rfl _ rfl
      have qv := kv _ rfl
      rw [hT] at hv
      obtain rfl : v = .string (strL Z) := hv
      obtain ⟨u, hu, ku⟩ := hdep ⟨36, .data⟩ (by simp) rfl _ rfl
      have qu := ku _ rfl
      rw [hT] at hu
      obtain rfl : u = .string (strL Z) := hu
      clear hsz hdep hout kg kv ku
      go_simp
      exact hK _ _ (Ex.refl _) (by rw [hT]; rfl)
    · rw [if_pos (by rfl)]
      intro K hK
      obtain ⟨v, hv, kv⟩ := hdep ⟨26, .data⟩ (by simp) rfl _ rfl
      have qv := kv _ rfl
      rw [hT] at hv
      obtain rfl : v = .bool true := hv
      obtain ⟨u, hu, ku⟩ := hdep ⟨37, .data⟩ (by simp) rfl _ rfl
      have qu := ku _ rfl
      rw [hT] at hu
      obtain rfl : u = .bool true := hu
      clear hsz hdep hout
      go_simp
      exact hK _ _ (Ex.refl _) (by rw [hT]; rfl)
    · rw [if_pos (by rfl)]
      intro K hK
      obtain ⟨v, hv, kv⟩ := hdep ⟨38, .data⟩ (by simp) rfl _ rfl
      have qv := kv _ rfl
      rw [hT] at hv
      obtain rfl : v = .bool true := hv
      exact wp_mv _ rfl (hK _ _ (Ex.refl _) (by rw [hT]; exact qv))
    · obtain ⟨vg, hvg, kg⟩ := hdep ⟨39, .guard⟩ (by simp) rfl _ rfl
      rw [hT] at hvg
      obtain rfl : vg = .bool true := hvg
      rw [if_pos (wanted_of rfl rfl rfl (kg _ rfl))]
      intro K hK
      have f := hout 2 (outB_spec (by kernel_rfl))
      exact wp_mv _ rfl (hK _ _ (Ex.refl _) (by rw [hT]; exact f))
    · obtain ⟨vg, hvg, kg⟩ := hdep ⟨39, .guard⟩ (by simp) rfl _ rfl
      rw [hT] at hvg
      obtain rfl : vg = .bool true := hvg
      rw [if_pos (wanted_of rfl rfl rfl (kg _ rfl))]
      intro K hK
      obtain ⟨v, hv, kv⟩ := hdep ⟨40, .data⟩ (by simp) rfl _ rfl
      have qv := kv _ rfl
      rw [hT] at hv
      obtain rfl : v = .int .u64 n := hv
      go_simp
      refine (NB.out w2).mono ?_
      rintro e w3 ⟨p, rfl, hl, hin, hex⟩
      exact hK _ _ hex (by rw [hT]; exact ⟨p, rfl, hl, hin⟩)
    · obtain ⟨vg, hvg, kg⟩ := hdep ⟨39, .guard⟩ (by simp) rfl _ rfl
      rw [hT] at hvg
      obtain rfl : vg = .bool true := hvg
      rw [if_pos (wanted_of rfl rfl rfl (kg _ rfl))]
      intro K hK
      obtain ⟨v, hv, kv⟩ := hdep ⟨41, .data⟩ (by simp) rfl _ rfl
      have qv := kv _ rfl
      rw [hT] at hv
      obtain ⟨pv, rfl, lv, iv⟩ := hv
      have cv := pt_conv pv w2 iv
      rw [lv] at cv
      have q : a.tmps[62]?.getD undef = .slice pv.ad (Nu).length pv.cap := by rw [← Array.getD_eq_getD_getElem?, qv]; unfold Pt.V; rw [lv]
      generalize (Nu).length = nn at cv q
      clear hsz hdep hout qv kv lv kg
      go_simp
      exact hK _ _ (Ex.refl _) (by rw [hT]; rfl)
    · obtain ⟨vg, hvg, kg⟩ := hdep ⟨39, .guard⟩ (by simp) rfl _ rfl
      rw [hT] at hvg
      obtain rfl : vg = .bool true := hvg
      rw [if_pos (wanted_of rfl rfl rfl (kg _ rfl))]
      intro K hK
      have f := hout 2 (outB_spec (by kernel_rfl))
      exact wp_mv _ rfl (hK _ _ (Ex.refl _) (by rw [hT]; exact f))
    · obtain ⟨vg, hvg, kg⟩ := hdep ⟨39, .guard⟩ (by simp) rfl _ rfl
      rw [hT] at hvg
      obtain rfl : vg = .bool true := hvg
      rw [if_pos (wanted_of rfl rfl rfl (kg _ rfl))]
      intro K hK
      obtain ⟨v, hv, kv⟩ := hdep ⟨43, .data⟩ (by simp) rfl _ rfl
      have qv := kv _ rfl
      rw [hT] at hv
      obtain rfl : v = .int .u64 n := hv
      go_simp
      refine (NR.out w2).mono ?_
      rintro e w3 ⟨p, rfl, hl, hin, hex⟩
      exact hK _ _ hex (by rw [hT]; exact ⟨p, rfl, hl, hin⟩)
    · obtain ⟨vg, hvg, kg⟩ := hdep ⟨39, .guard⟩ (by simp) rfl _ rfl
      rw [hT] at hvg
      obtain rfl : vg = .bool true := hvg
      rw [if_pos (wanted_of rfl rfl rfl (kg _ rfl))]
      intro K hK
      obtain ⟨v, hv, kv⟩ := hdep ⟨44, .data⟩ (by simp) rfl _ rfl
      have qv := kv _ rfl
      rw [hT] at hv
      obtain ⟨pv, rfl, lv, iv⟩ := hv
      have cv := pt_conv pv w2 iv
      rw [lv] at cv
      have q : a.tmps[65]?.getD undef = .slice pv.ad (Nu).length pv.cap := by rw [← Array.getD_eq_getD_getElem?, qv]; unfold Pt.V; rw [lv]
      generalize (Nu).length = nn at cv q
      clear hsz hdep hout qv kv lv kg
      go_simp
      exact hK _ _ (Ex.refl _) (by rw [hT]; rfl)
    · obtain ⟨vg, hvg, kg⟩ := hdep ⟨39, .guard⟩ (by simp) rfl _ rfl
      rw [hT] at hvg
      obtain rfl : vg = .bool true := hvg
      rw [if_pos (wanted_of rfl rfl rfl (kg _ rfl))]
      intro K hK
      obtain ⟨v, hv, kv⟩ := hdep ⟨42, .data⟩ (by simp) rfl _ rfl
      have qv := kv _ rfl
      rw [hT] at hv
      obtain rfl : v = .string (strL Nu) := hv
      obtain ⟨u, hu, ku⟩ := hdep ⟨45, .data⟩ (by simp) rfl _ rfl
      have qu := ku _ rfl
      rw [hT] at hu
      obtain rfl : u = .string (strL Nu) := hu
      clear hsz hdep hout kg kv ku
      go_simp
      exact hK _ _ (Ex.refl _) (by rw [hT]; rfl)
    · rw [if_pos (by rfl)]
      intro K hK
      obtain ⟨v, hv, kv⟩ := hdep ⟨39, .data⟩ (by simp) rfl _ rfl
      have qv := kv _ rfl
      rw [hT] at hv
      obtain rfl : v = .bool true := hv
      obtain ⟨u, hu, ku⟩ := hdep ⟨46, .data⟩ (by simp) rfl _ rfl
      have qu := ku _ rfl
      rw [hT] at hu
      obtain rfl : u = .bool true := hu
      clear hsz hdep hout
      go_simp
      exact hK _ _ (Ex.refl _) (by rw [hT]; rfl)
    · rw [if_pos (by rfl)]
      intro K hK
      obtain ⟨v, hv, kv⟩ := hdep ⟨47, .data⟩ (by simp) rfl _ rfl
      have qv := kv _ rfl
      rw [hT] at hv
      obtain rfl : v = .bool true := hv
      exact wp_mv _ rfl (hK _ _ (Ex.refl _) (by rw [hT]; exact qv))
    · obtain ⟨vg, hvg, kg⟩ := hdep ⟨48, .guard⟩ (by simp) rfl _ rfl
      rw [hT] at hvg
      obtain rfl : vg = .bool true := hvg
      rw [if_pos (wanted_of rfl rfl rfl (kg _ rfl))]
      intro K hK
      have f := hout 4 (outB_spec (by kernel_rfl))
      exact wp_mv _ rfl (hK _ _ (Ex.refl _) (by rw [hT]; exact ⟨q, f, hql, hqi.ext (Ex.trans (show Ex wr wr.drew from (Below.refl _ _).drew) hx)⟩))
    · obtain ⟨vg, hvg, kg⟩ := hdep ⟨48, .guard⟩ (by simp) rfl _ rfl
      rw [hT] at hvg
      obtain rfl : vg = .bool true := hvg
      rw [if_pos (wanted_of rfl rfl rfl (kg _ rfl))]
      intro K hK
      have f := hout 5 (outB_spec (by kernel_rfl))
      exact wp_mv _ rfl (hK _ _ (Ex.refl _) (by rw [hT]; exact ⟨o, f, hol, hoi.ext (Ex.trans (show Ex wr wr.drew from (Below.refl _ _).drew) hx)⟩))
    · obtain ⟨vg, hvg, kg⟩ := hdep ⟨48, .guard⟩ (by simp) rfl _ rfl
      rw [hT] at hvg
      obtain rfl : vg = .bool true := hvg
      rw [if_pos (wanted_of rfl rfl rfl (kg _ rfl))]
      intro K hK
      obtain ⟨v, hv, kv⟩ := hdep ⟨49, .data⟩ (by simp) rfl _ rfl
      have qv := kv _ rfl
      rw [hT] at hv
      obtain ⟨pv, rfl, lv, iv⟩ := hv
      obtain ⟨u, hu, ku⟩ := hdep ⟨50, .data⟩ (by simp) rfl _ rfl
      have qu := ku _ rfl
      rw [hT] at hu
      obtain ⟨pu, rfl, lu, iu⟩ := hu
      have C := same_any pv pu w2 iv iu
      rw [lv, lu, HBQ.out] at C
      have C := Lib.hid C
      go_simp
      refine C.out.mono ?_
      rintro e w3 ⟨rfl, rfl⟩
      exact hK _ _ (Ex.refl _) (by rw [hT]; rfl)
    · obtain ⟨vg, hvg, kg⟩ := hdep ⟨48, .guard⟩ (by simp) rfl _ rfl
      rw [hT] at hvg
      obtain rfl : vg = .bool true := hvg
      rw [if_pos (wanted_of rfl rfl rfl (kg _ rfl))]
      intro K hK
      have f := hout 4 (outB_spec (by kernel_rfl))
      exact wp_mv _ rfl (hK _ _ (Ex.refl _) (by rw [hT]; exact ⟨q, f, hql, hqi.ext (Ex.trans (show Ex wr wr.drew from (Below.refl _ _).drew) hx)⟩))
    · obtain ⟨vg, hvg, kg⟩ := hdep ⟨48, .guard⟩ (by simp) rfl _ rfl
      rw [hT] at hvg
      obtain rfl : vg = .bool true := hvg
      rw [if_pos (wanted_of rfl rfl rfl (kg _ rfl))]
      intro K hK
      obtain ⟨v, hv, kv⟩ := hdep ⟨52, .data⟩ (by simp) rfl _ rfl
      have qv := kv _ rfl
      rw [hT] at hv
      obtain ⟨pv, rfl, lv, iv⟩ := hv
      have cv := pt_conv pv w2 iv
      rw [lv] at cv
      have q : a.tmps[73]?.getD undef = .slice pv.ad (L).length pv.cap := by rw [← Array.getD_eq_getD_getElem?, qv]; unfold Pt.V; rw [lv]
      generalize (L).length = nn at cv q
      clear hsz hdep hout qv kv lv kg
      go_simp
      exact hK _ _ (Ex.refl _) (by rw [hT]; rfl)
    · obtain ⟨vg, hvg, kg⟩ := hdep ⟨48, .guard⟩ (by simp) rfl _ rfl
      rw [hT] at hvg
      obtain rfl : vg = .bool true := hvg
      rw [if_pos (wanted_of rfl rfl rfl (kg _ rfl))]
      intro K hK
      have f := hout 5 (outB_spec (by kernel_rfl))
      exact wp_mv _ rfl (hK _ _ (Ex.refl _) (by rw [hT]; exact ⟨o, f, hol, hoi.ext (Ex.trans (show Ex wr wr.drew from (Below.refl _ _).drew) hx)⟩))
    · obtain ⟨vg, hvg, kg⟩ := hdep ⟨48, .guard⟩ (by simp) rfl _ rfl
      rw [hT] at hvg
      obtain rfl : vg = .bool true := hvg
      rw [if_pos (wanted_of rfl rfl rfl (kg _ rfl))]
      intro K hK
      obtain ⟨v, hv, kv⟩ := hdep ⟨54, .data⟩ (by simp) rfl _ rfl
      have qv := kv _ rfl
      rw [hT] at hv
      obtain ⟨pv, rfl, lv, iv⟩ := hv
      have cv := pt_conv pv w2 iv
      rw [lv] at cv
      have q : a.tmps[75]?.getD undef = .slice pv.ad (O).length pv.cap := by rw [← Array.getD_eq_getD_getElem?, qv]; unfold Pt.V; rw [lv]
      generalize (O).length = nn at cv q
      clear hsz hdep hout qv kv lv kg
      go_simp
      exact hK _ _ (Ex.refl _) (by rw [hT]; rfl)
    · obtain ⟨vg, hvg, kg⟩ := hdep ⟨48, .guard⟩ (by simp) rfl _ rfl
      rw [hT] at hvg
      obtain rfl : vg = .bool true := hvg
      rw [if_pos (wanted_of rfl rfl rfl (kg _ rfl))]
      intro K hK
      obtain ⟨v, hv, kv⟩ := hdep ⟨53, .data⟩ (by simp) rfl _ rfl
      have qv := kv _ rfl
      rw [hT] at hv
      obtain rfl : v = .string (strL L) := hv
      obtain ⟨u, hu, ku⟩ := hdep ⟨55, .data⟩ (by simp) rfl _ rfl
      have qu := ku _ rfl
      rw [hT] at hu
      obtain rfl : u = .string (strL O) := hu
      clear hsz hdep hout kg kv ku
      have HS := Lib.hid (show decide (strL L = strL O) = bq by rw [← HBQ.out]; exact decide_eq_decide.2 (strL_eq _ _))
      generalize strL L = s1 at HS qv
      generalize strL O = s2 at HS qu
      go_simp
      exact hK _ _ (Ex.refl _) (by rw [hT]; show Value.bool _ = .bool bq; rw [← HS.out, toList_beq])
    · obtain ⟨vg, hvg, kg⟩ := hdep ⟨48, .guard⟩ (by simp) rfl _ rfl
      rw [hT] at hvg
      obtain rfl : vg = .bool true := hvg
      rw [if_pos (wanted_of rfl rfl rfl (kg _ rfl))]
      intro K hK
      obtain ⟨v, hv, kv⟩ := hdep ⟨51, .data⟩ (by simp) rfl _ rfl
      have qv := kv _ rfl
      rw [hT] at hv
      obtain rfl : v = .bool bq := hv
      obtain ⟨u, hu, ku⟩ := hdep ⟨56, .data⟩ (by simp) rfl _ rfl
      have qu := ku _ rfl
      rw [hT] at hu
      obtain rfl : u = .bool bq := hu
      clear hsz hdep hout kg kv ku
      go_simp
      exact hK _ _ (Ex.refl _) (by rw [hT]; show Value.bool _ = .bool true; first | rfl | simp)
    · rw [if_pos (by rfl)]
      intro K hK
      obtain ⟨v, hv, kv⟩ := hdep ⟨48, .data⟩ (by simp) rfl _ rfl
      have qv := kv _ rfl
      rw [hT] at hv
      obtain rfl : v = .bool true := hv
      obtain ⟨u, hu, ku⟩ := hdep ⟨57, .data⟩ (by simp) rfl _ rfl
      have qu := ku _ rfl
      rw [hT] at hu
      obtain rfl : u = .bool true := hu
      clear hsz hdep hout
      go_simp
      exact hK _ _ (Ex.refl _) (by rw [hT]; rfl)
    · rw [if_pos (by rfl)]
      intro K hK
      obtain ⟨v, hv, kv⟩ := hdep ⟨58, .data⟩ (by simp) rfl _ rfl
      have qv := kv _ rfl
      rw [hT] at hv
      obtain rfl : v = .bool true := hv
      exact wp_mv _ rfl (hK _ _ (Ex.refl _) (by rw [hT]; exact qv))
    · obtain ⟨vg, hvg, kg⟩ := hdep ⟨59, .guard⟩ (by simp) rfl _ rfl
      rw [hT] at hvg
      obtain rfl : vg = .bool true := hvg
      rw [if_pos (wanted_of rfl rfl rfl (kg _ rfl))]
      intro K hK
      have f := hout 4 (outB_spec (by kernel_rfl))
      exact wp_mv _ rfl (hK _ _ (Ex.refl _) (by rw [hT]; exact ⟨q, f, hql, hqi.ext (Ex.trans (show Ex wr wr.drew from (Below.refl _ _).drew) hx)⟩))
    · obtain ⟨vg, hvg, kg⟩ := hdep ⟨59, .guard⟩ (by simp) rfl _ rfl
      rw [hT] at hvg
      obtain rfl : vg = .bool true := hvg
      rw [if_pos (wanted_of rfl rfl rfl (kg _ rfl))]
      intro K hK
      clear hsz hdep hout kg
      go_simp
      have hex : Ex w2 (w2.alloc (.cells #[] 5)) := (Below.refl _ _).alloc (Nat.le_refl _) _
      exact hK _ _ hex (by rw [hT]; exact ⟨⟨some ⟨w2.heap.size, 0, none⟩, 0, []⟩, rfl, rfl, rfl, bk_pt (t := 5) (l := []) (Bk.new (w := w2) rfl 5 (Lib.byteCells []).toArray)⟩)
    · obtain ⟨vg, hvg, kg⟩ := hdep ⟨59, .guard⟩ (by simp) rfl _ rfl
      rw [hT] at hvg
      obtain rfl : vg = .bool true := hvg
      rw [if_pos (wanted_of rfl rfl rfl (kg _ rfl))]
      intro K hK
      have f := hout 4 (outB_spec (by kernel_rfl))
      exact wp_mv _ rfl (hK _ _ (Ex.refl _) (by rw [hT]; exact ⟨q, f, hql, hqi.ext (Ex.trans (show Ex wr wr.drew from (Below.refl _ _).drew) hx)⟩))
    · obtain ⟨vg, hvg, kg⟩ := hdep ⟨59, .guard⟩ (by simp) rfl _ rfl
      rw [hT] at hvg
      obtain rfl : vg = .bool true := hvg
      rw [if_pos (wanted_of rfl rfl rfl (kg _ rfl))]
      intro K hK
      obtain ⟨v, hv, kv⟩ := hdep ⟨61, .data⟩ (by simp) rfl _ rfl
      have qv := kv _ rfl
      rw [hT] at hv
      obtain ⟨pv, rfl, lv, cv, iv⟩ := hv
      obtain ⟨u, hu, ku⟩ := hdep ⟨62, .data⟩ (by simp) rfl _ rfl
      have qu := ku _ rfl
      rw [hT] at hu
      obtain ⟨pu, rfl, lu, iu⟩ := hu
      refine wp_app_full (.tmp 82) (.tmp 83) rfl pv pu ?_ ?_ iv iu (by rw [cv, lv]) (by rw [lv, lu, HLl.out]; simp; omega) ?_
      · simpa [Act.eval, Array.getD_eq_getD_getElem?] using qv
      · simpa [Act.eval, Array.getD_eq_getD_getElem?] using qu
      · intro r w3 hr hin hex
        exact hK _ _ hex (by rw [hT]; exact ⟨r, rfl, by rw [hr, lv, lu]; rfl, hin⟩)
    · obtain ⟨vg, hvg, kg⟩ := hdep ⟨59, .guard⟩ (by simp) rfl _ rfl
      rw [hT] at hvg
      obtain rfl : vg = .bool true := hvg
      rw [if_pos (wanted_of rfl rfl rfl (kg _ rfl))]
      intro K hK
      obtain ⟨v, hv, kv⟩ := hdep ⟨60, .data⟩ (by simp) rfl _ rfl
      have qv := kv _ rfl
      rw [hT] at hv
      obtain ⟨pv, rfl, lv, iv⟩ := hv
      obtain ⟨u, hu, ku⟩ := hdep ⟨63, .data⟩ (by simp) rfl _ rfl
      have qu := ku _ rfl
      rw [hT] at hu
      obtain ⟨pu, rfl, lu, iu⟩ := hu
      have C := same_any pv pu w2 iv iu
      rw [lv, lu, decide_eq_true rfl] at C
      have C := Lib.hid C
      go_simp
      refine C.out.mono ?_
      rintro e w3 ⟨rfl, rfl⟩
      exact hK _ _ (Ex.refl _) (by rw [hT]; rfl)
    · rw [if_pos (by rfl)]
      intro K hK
      obtain ⟨v, hv, kv⟩ := hdep ⟨59, .data⟩ (by simp) rfl _ rfl
      have qv := kv _ rfl
      rw [hT] at hv
      obtain rfl : v = .bool true := hv
      obtain ⟨u, hu, ku⟩ := hdep ⟨64, .data⟩ (by simp) rfl _ rfl
      have qu := ku _ rfl
      rw [hT] at hu
      obtain rfl : u = .bool true := hu
      clear hsz hdep hout
      go_simp
      exact hK _ _ (Ex.refl _) (by rw [hT]; rfl)
    · rw [if_pos (by rfl)]
      intro K hK
      obtain ⟨v, hv, kv⟩ := hdep ⟨65, .data⟩ (by simp) rfl _ rfl
      have qv := kv _ rfl
      rw [hT] at hv
      obtain rfl : v = .bool true := hv
      exact wp_mv _ rfl (hK _ _ (Ex.refl _) (by rw [hT]; exact qv))
    · obtain ⟨vg, hvg, kg⟩ := hdep ⟨66, .guard⟩ (by simp) rfl _ rfl
      rw [hT] at hvg
      obtain rfl : vg = .bool true := hvg
      rw [if_pos (wanted_of rfl rfl rfl (kg _ rfl))]
      intro K hK
      have f := hout 13 (outB_spec (by kernel_rfl))
      exact wp_mv _ rfl (hK _ _ (Ex.refl _) (by rw [hT]; exact ⟨r, f, hrl, hri.ext (Ex.trans (show Ex wr wr.drew from (Below.refl _ _).drew) hx)⟩))
    · obtain ⟨vg, hvg, kg⟩ := hdep ⟨66, .guard⟩ (by simp) rfl _ rfl
      rw [hT] at hvg
      obtain rfl : vg = .bool true := hvg
      rw [if_pos (wanted_of rfl rfl rfl (kg _ rfl))]
      intro K hK
      have f := hout 4 (outB_spec (by kernel_rfl))
      exact wp_mv _ rfl (hK _ _ (Ex.refl _) (by rw [hT]; exact ⟨q, f, hql, hqi.ext (Ex.trans (show Ex wr wr.drew from (Below.refl _ _).drew) hx)⟩))
    · obtain ⟨vg, hvg, kg⟩ := hdep ⟨66, .guard⟩ (by simp) rfl _ rfl
      rw [hT] at hvg
      obtain rfl : vg = .bool true := hvg
      rw [if_pos (wanted_of rfl rfl rfl (kg _ rfl))]
      intro K hK
      obtain ⟨v, hv, kv⟩ := hdep ⟨67, .data⟩ (by simp) rfl _ rfl
      have qv := kv _ rfl
      rw [hT] at hv
      obtain ⟨pv, rfl, lv, iv⟩ := hv
      obtain ⟨u, hu, ku⟩ := hdep ⟨68, .data⟩ (by simp) rfl _ rfl
      have qu := ku _ rfl
      rw [hT] at hu
      obtain ⟨pu, rfl, lu, iu⟩ := hu
      go_simp
      refine (IN.out w2 pv pu lv lu iv iu).mono ?_
      rintro e w3 ⟨rfl, hex⟩
      exact hK _ _ hex (by rw [hT]; rfl)
    · rw [if_pos (by rfl)]
      intro K hK
      obtain ⟨v, hv, kv⟩ := hdep ⟨66, .data⟩ (by simp) rfl _ rfl
      have qv := kv _ rfl
      rw [hT] at hv
      obtain rfl : v = .bool true := hv
      obtain ⟨u, hu, ku⟩ := hdep ⟨69, .data⟩ (by simp) rfl _ rfl
      have qu := ku _ rfl
      rw [hT] at hu
      obtain rfl : u = .bool true := hu
      clear hsz hdep hout
      go_simp
      exact hK _ _ (Ex.refl _) (by rw [hT]; rfl)
    · rw [if_pos (by rfl)]
      intro K hK
      obtain ⟨v, hv, kv⟩ := hdep ⟨70, .data⟩ (by simp) rfl _ rfl
      have qv := kv _ rfl
      rw [hT] at hv
      obtain rfl : v = .bool true := hv
      exact wp_mv _ rfl (hK _ _ (Ex.refl _) (by rw [hT]; exact qv))
    · obtain ⟨vg, hvg, kg⟩ := hdep ⟨71, .guard⟩ (by simp) rfl _ rfl
      rw [hT] at hvg
      obtain rfl : vg = .bool true := hvg
      rw [if_pos (wanted_of rfl rfl rfl (kg _ rfl))]
      intro K hK
      go_simp
      refine (KN.out w2).mono ?_
      rintro e w3 ⟨rfl, hex⟩
      exact hK _ _ hex (by rw [hT]; rfl)
    · rw [if_pos (by rfl)]
      intro K hK
      obtain ⟨v, hv, kv⟩ := hdep ⟨71, .data⟩ (by simp) rfl _ rfl
      have qv := kv _ rfl
      rw [hT] at hv
      obtain rfl : v = .bool true := hv
      obtain ⟨u, hu, ku⟩ := hdep ⟨72, .data⟩ (by simp) rfl _ rfl
      have qu := ku _ rfl
      rw [hT] at hu
      obtain rfl : u = .bool true := hu
      clear hsz hdep hout
      go_simp
      exact hK _ _ (Ex.refl _) (by rw [hT]; rfl)
  · intro a w2 hx hdef hsz hdone hout
    obtain ⟨v, hv, kv⟩ := hdone 73 _ (by omega) rfl
    have qv := kv _ rfl
    rw [hT] at hv
    obtain rfl : v = .bool true := hv
    clear hdone kv hT
    have hA := arr_range a.tmps 95 hsz
    change a.tmps = #[a.tmps[0]?.getD undef, a.tmps[1]?.getD undef, a.tmps[2]?.getD undef, a.tmps[3]?.getD undef, a.tmps[4]?.getD undef, a.tmps[5]?.getD undef, a.tmps[6]?.getD undef, a.tmps[7]?.getD undef, a.tmps[8]?.getD undef, a.tmps[9]?.getD undef, a.tmps[10]?.getD undef, a.tmps[11]?.getD undef, a.tmps[12]?.getD undef, a.tmps[13]?.getD undef, a.tmps[14]?.getD undef, a.tmps[15]?.getD undef, a.tmps[16]?.getD undef, a.tmps[17]?.getD undef, a.tmps[18]?.getD undef, a.tmps[19]?.getD undef, a.tmps[20]?.getD undef, a.tmps[21]?.getD undef, a.tmps[22]?.getD undef, a.tmps[23]?.getD undef, a.tmps[24]?.getD undef, a.tmps[25]?.getD undef, a.tmps[26]?.getD undef, a.tmps[27]?.getD undef, a.tmps[28]?.getD undef, a.tmps[29]?.getD undef, a.tmps[30]?.getD undef, a.tmps[31]?.getD undef, a.tmps[32]?.getD undef, a.tmps[33]?.getD undef, a.tmps[34]?.getD undef, a.tmps[35]?.getD undef, a.tmps[36]?.getD undef, a.tmps[37]?.getD undef, a.tmps[38]?.getD undef, a.tmps[39]?.getD undef, a.tmps[40]?.getD undef, a.tmps[41]?.getD undef, a.tmps[42]?.getD undef, a.tmps[43]?.getD undef, a.tmps[44]?.getD undef, a.tmps[45]?.getD undef, a.tmps[46]?.getD undef, a.tmps[47]?.getD undef, a.tmps[48]?.getD undef, a.tmps[49]?.getD undef, a.tmps[50]?.getD undef, a.tmps[51]?.getD undef, a.tmps[52]?.getD undef, a.tmps[53]?.getD undef, a.tmps[54]?.getD undef, a.tmps[55]?.getD undef, a.tmps[56]?.getD undef, a.tmps[57]?.getD undef, a.tmps[58]?.getD undef, a.tmps[59]?.getD undef, a.tmps[60]?.getD undef, a.tmps[61]?.getD undef, a.tmps[62]?.getD undef, a.tmps[63]?.getD undef, a.tmps[64]?.getD undef, a.tmps[65]?.getD undef, a.tmps[66]?.getD undef, a.tmps[67]?.getD undef, a.tmps[68]?.getD undef, a.tmps[69]?.getD undef, a.tmps[70]?.getD undef, a.tmps[71]?.getD undef, a.tmps[72]?.getD undef, a.tmps[73]?.getD undef, a.tmps[74]?.getD undef, a.tmps[75]?.getD undef, a.tmps[76]?.getD undef, a.tmps[77]?.getD undef, a.tmps[78]?.getD undef, a.tmps[79]?.getD undef, a.tmps[80]?.getD undef, a.tmps[81]?.getD undef, a.tmps[82]?.getD undef, a.tmps[83]?.getD undef, a.tmps[84]?.getD undef, a.tmps[85]?.getD undef, a.tmps[86]?.getD undef, a.tmps[87]?.getD undef, a.tmps[88]?.getD undef, a.tmps[89]?.getD undef, a.tmps[90]?.getD undef, a.tmps[91]?.getD undef, a.tmps[92]?.getD undef, a.tmps[93]?.getD undef, a.tmps[94]?.getD undef] at hA
    have e0 := hout 0 (fun i o _ h => outB_spec (by kernel_rfl) i o h)
    have e1 := hout 1 (fun i o _ h => outB_spec (by kernel_rfl) i o h)
    have e2 := hout 2 (fun i o _ h => outB_spec (by kernel_rfl) i o h)
    have e3 := hout 3 (fun i o _ h => outB_spec (by kernel_rfl) i o h)
    have e4 := hout 4 (fun i o _ h => outB_spec (by kernel_rfl) i o h)
    have e5 := hout 5 (fun i o _ h => outB_spec (by kernel_rfl) i o h)
    have e6 := hout 6 (fun i o _ h => outB_spec (by kernel_rfl) i o h)
    have e7 := hout 7 (fun i o _ h => outB_spec (by kernel_rfl) i o h)
    have e8 := hout 8 (fun i o _ h => outB_spec (by kernel_rfl) i o h)
    have e9 := hout 9 (fun i o _ h => outB_spec (by kernel_rfl) i o h)
    have e10 := hout 10 (fun i o _ h => outB_spec (by kernel_rfl) i o h)
    have e11 := hout 11 (fun i o _ h => outB_spec (by kernel_rfl) i o h)
    have e13 := hout 13 (fun i o _ h => outB_spec (by kernel_rfl) i o h)
    have e14 := hout 14 (fun i o _ h => outB_spec (by kernel_rfl) i o h)
    have e15 := hout 15 (fun i o _ h => outB_spec (by kernel_rfl) i o h)
    have e16 := hout 16 (fun i o _ h => outB_spec (by kernel_rfl) i o h)
    have e17 := hout 17 (fun i o _ h => outB_spec (by kernel_rfl) i o h)
    have e18 := hout 18 (fun i o _ h => outB_spec (by kernel_rfl) i o h)
    have e19 := hout 19 (fun i o _ h => outB_spec (by kernel_rfl) i o h)
    have e20 := hout 20 (fun i o _ h => outB_spec (by kernel_rfl) i o h)
    simp only [Array.getD_eq_getD_getElem?, List.getElem?_toArray, List.getElem?_cons_zero, List.getElem?_cons_succ, Option.getD_some] at e0 e1 e2 e3 e4 e5 e6 e7 e8 e9 e10 e11 e13 e14 e15 e16 e17 e18 e19 e20
    rw [e0, e1, e2, e3, e4, e5, e6, e7, e8, e9, e10, e11, e13, e14, e15, e16, e17, e18, e19, e20] at hA
    clear e0 e1 e2 e3 e4 e5 e6 e7 e8 e9 e10 e11 e13 e14 e15 e16 e17 e18 e19 e20 hout
    have hds2 : a.defers = [] := hdef
    have ea : a = ⟨a.tmps, a.defers⟩ := rfl
    have s94 : a.tmps[94]?.getD undef = .bool true := by simpa [Array.getD_eq_getD_getElem?] using qv
    rw [hA, hds2, s94] at ea
    clear hA hds2 s94 qv hdef
    generalize a.tmps[21]?.getD undef = y21 at ea
    generalize a.tmps[22]?.getD undef = y22 at ea
    generalize a.tmps[23]?.getD undef = y23 at ea
    generalize a.tmps[24]?.getD undef = y24 at ea
    generalize a.tmps[25]?.getD undef = y25 at ea
    generalize a.tmps[26]?.getD undef = y26 at ea
    generalize a.tmps[27]?.getD undef = y27 at ea
    generalize a.tmps[28]?.getD undef = y28 at ea
    generalize a.tmps[29]?.getD undef = y29 at ea
    generalize a.tmps[30]?.getD undef = y30 at ea
    generalize a.tmps[31]?.getD undef = y31 at ea
    generalize a.tmps[32]?.getD undef = y32 at ea
    generalize a.tmps[33]?.getD undef = y33 at ea
    generalize a.tmps[34]?.getD undef = y34 at ea
    generalize a.tmps[35]?.getD undef = y35 at ea
    generalize a.tmps[36]?.getD undef = y36 at ea
    generalize a.tmps[37]?.getD undef = y37 at ea
    generalize a.tmps[38]?.getD undef = y38 at ea
    generalize a.tmps[39]?.getD undef = y39 at ea
    generalize a.tmps[40]?.getD undef = y40 at ea
    generalize a.tmps[41]?.getD undef = y41 at ea
    generalize a.tmps[42]?.getD undef = y42 at ea
    generalize a.tmps[43]?.getD undef = y43 at ea
    generalize a.tmps[44]?.getD undef = y44 at ea
    generalize a.tmps[45]?.getD undef = y45 at ea
    generalize a.tmps[46]?.getD undef = y46 at ea
    generalize a.tmps[47]?.getD undef = y47 at ea
    generalize a.tmps[48]?.getD undef = y48 at ea
    generalize a.tmps[49]?.getD undef = y49 at ea
    generalize a.tmps[50]?.getD undef = y50 at ea
    generalize a.tmps[51]?.getD undef = y51 at ea
    generalize a.tmps[52]?.getD undef = y52 at ea
    generalize a.tmps[53]?.getD undef = y53 at ea
    generalize a.tmps[54]?.getD undef = y54 at ea
    generalize a.tmps[55]?.getD undef = y55 at ea
    generalize a.tmps[56]?.getD undef = y56 at ea
    generalize a.tmps[57]?.getD undef = y57 at ea
    generalize a.tmps[58]?.getD undef = y58 at ea
    generalize a.tmps[59]?.getD undef = y59 at ea
    generalize a.tmps[60]?.getD undef = y60 at ea
    generalize a.tmps[61]?.getD undef = y61 at ea
    generalize a.tmps[62]?.getD undef = y62 at ea
    generalize a.tmps[63]?.getD undef = y63 at ea
    generalize a.tmps[64]?.getD undef = y64 at ea
    generalize a.tmps[65]?.getD undef = y65 at ea
    generalize a.tmps[66]?.getD undef = y66 at ea
    generalize a.tmps[67]?.getD undef = y67 at ea
    generalize a.tmps[68]?.getD undef = y68 at ea
    generalize a.tmps[69]?.getD undef = y69 at ea
    generalize a.tmps[70]?.getD undef = y70 at ea
    generalize a.tmps[71]?.getD undef = y71 at ea
    generalize a.tmps[72]?.getD undef = y72 at ea
    generalize a.tmps[73]?.getD undef = y73 at ea
    generalize a.tmps[74]?.getD undef = y74 at ea
    generalize a.tmps[75]?.getD undef = y75 at ea
    generalize a.tmps[76]?.getD undef = y76 at ea
    generalize a.tmps[77]?.getD undef = y77 at ea
    generalize a.tmps[78]?.getD undef = y78 at ea
    generalize a.tmps[79]?.getD undef = y79 at ea
    generalize a.tmps[80]?.getD undef = y80 at ea
    generalize a.tmps[81]?.getD undef = y81 at ea
    generalize a.tmps[82]?.getD undef = y82 at ea
    generalize a.tmps[83]?.getD undef = y83 at ea
    generalize a.tmps[84]?.getD undef = y84 at ea
    generalize a.tmps[85]?.getD undef = y85 at ea
    generalize a.tmps[86]?.getD undef = y86 at ea
    generalize a.tmps[87]?.getD undef = y87 at ea
    generalize a.tmps[88]?.getD undef = y88 at ea
    generalize a.tmps[89]?.getD undef = y89 at ea
    generalize a.tmps[90]?.getD undef = y90 at ea
    generalize a.tmps[91]?.getD undef = y91 at ea
    generalize a.tmps[92]?.getD undef = y92 at ea
    generalize a.tmps[93]?.getD undef = y93 at ea
    generalize a.tmps[12]?.getD undef = y12 at ea
    clear hsz
    subst ea
    have bx : Below wr.heap.size wr w2 := Below.trans (Below.refl _ _).drew hx
    unfold wpOp
    simp only [List.getElem?_toArray, List.getElem?_cons_zero, List.getElem?_cons_succ]
    rw [if_pos (by rfl)]
    left
    have bw4 := bw.trans (bx.mono bz)
    go_simp
    go_wp2_with fail
    go_ret
    exact ⟨rfl, bw4⟩
theorem blendTells_law (v0 v1 : Value) (n c : Int) (v4 v5 : Value) (w : World) (h0 : ∃ l : List UInt8, l.length = 16 ∧ v0 = digV l) (h1 : ∃ l : List UInt8, l.length = 16 ∧ v1 = digV l) (h2 : (Lit.int .u64 n).wf = true) (h3 : (Lit.int .i64 c).wf = true)
    (h4 : ∃ p : Pt, v4 = p.V ∧ p.In w w.heap.size ∧ p.l.length ≤ 9223372036854775807) (h5 : ∃ p : Pt, v5 = p.V ∧ p.In w w.heap.size ∧ p.l.length ≤ 9223372036854775807) :
    Calls Try.prog 4 #[v0, v1, .int .u64 n, .int .i64 c, v4, v5] w fun e w' => e = .returned (.bool true) ∧ Below w.heap.size w w' := by
  obtain ⟨A, hA, rfl⟩ := h0
  obtain ⟨B, hB, rfl⟩ := h1
  obtain ⟨p, rfl, hp, hp2⟩ := h4
  obtain ⟨o, rfl, ho, ho2⟩ := h5
  have r2 : 0 ≤ n ∧ n < 18446744073709551616 := by simp [Lit.wf, IntKind.min, IntKind.max, IntKind.signed, IntKind.bits] at h2; omega
  have r3 : -9223372036854775808 ≤ c ∧ c ≤ 9223372036854775807 := by simp [Lit.wf, IntKind.min, IntKind.max, IntKind.signed, IntKind.bits] at h3; omega
  exact btells_any A B hA hB n c r2.1 r2.2 r3 p o w hp ho hp2
end Go.Proofs.Ytkneeocicbadjaa
