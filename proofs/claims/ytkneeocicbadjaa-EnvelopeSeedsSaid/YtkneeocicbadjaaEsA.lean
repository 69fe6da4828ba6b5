/- walks: EnvelopeSeeds -/
import Derived.Test.YtkneeocicbadjaaEnD
import Derived.Test.YtkneeocicbadjaaOpC
namespace Go.Proofs.Ytkneeocicbadjaa
open Go.RowKit
set_option maxHeartbeats 8000000 in
set_option maxRecDepth 100000 in
theorem eseeds_any (kl : List UInt8) (hkll : kl.length = 16) (v : Value) (t0 : Pt) (w : World) (hr : U64Row w v) (ht0 : t0.In w w.heap.size) (hmt : t0.l.length ≤ 9223372036854775807) :
    Calls Try.prog 19 #[digV kl, v, t0.V] w fun e w' => e = .returned (.bool true) ∧ Below w.heap.size w w' := by
  obtain ⟨ao, n, c, rfl, hnm, hrow⟩ := hr
  obtain ⟨cs, hcs⟩ : ∃ cs, cs = (Lib.byteCells kl).toArray := ⟨_, rfl⟩
  have hv : digV kl = .agg cs := by rw [hcs]; rfl
  have HA : Hid (DB (w.alloc (.cells cs 24)) w.heap.size kl) := by rw [hcs]; exact Lib.hid (DB.new rfl hkll)
  have bw : Below w.heap.size w (w.alloc (.cells cs 24)) := (Below.refl _ _).alloc (Nat.le_refl _) _
  obtain ⟨TX, hTX⟩ : ∃ A, A = t0.l.take 40 := ⟨_, rfl⟩
  have hTl : TX.length ≤ 40 := by rw [hTX, List.length_take]; omega
  obtain ⟨lt, hlt⟩ : ∃ x, x = TX.length := ⟨_, rfl⟩
  have HTl := Lib.hid hlt.symm
  have hlb : lt ≤ 40 := by omega
  have C2 := Lib.hid (cut_any t0 40 (by omega) _ (ht0.ext bw) hmt)
  rw [← hTX] at C2
  obtain ⟨tv, htv⟩ : ∃ v, v = t0.V := ⟨_, rfl⟩
  rw [← htv] at C2
  have HK := Lib.hid hkll
  have HR := Lib.hid hrow
  have hnm2 : n ≤ 9223372036854775807 := by unfold maxLen at hnm; omega
  have bz := bw.size
  rw [hv, ← htv]
  clear hv hcs hTX hTl hlt htv ht0 hmt hkll hrow hnm
  go_enter Try.func19, Try.ntmps19
  go_wp2_with fail
  obtain ⟨w1, hw1⟩ : ∃ w1, w1 = w.alloc (.cells cs 24) := ⟨_, rfl⟩
  rw [← hw1] at HA bw bz C2 ⊢
  clear hw1
  refine C2.out.mono ?_
  rintro e w3 ⟨⟨pt, rfl, htl, hti⟩, rfl⟩
  obtain ⟨ptV, hptV⟩ : ∃ v, v = pt.V := ⟨_, rfl⟩
  rw [← hptV]
  have HPT := Lib.hid hptV
  have TL := Lib.hid htl
  have TI := Lib.hid hti
  clear htl hti hptV C2
  go_wp2_with fail
  go_loopw [7] (fun i wr => ∃ j : Nat, j ≤ n ∧ j ≤ 20 ∧ i = .int .i64 j ∧ Hid (DB wr w.heap.size kl) ∧ Hid (pt.In wr wr.heap.size) ∧ Below w.heap.size w wr) (fun i _ => 20 - (intOf i).toNat)
  case atStart => exact ⟨0, by omega, by omega, rfl, HA, TI, bw⟩
  case round =>
    clear HA TI bw bz
    obtain ⟨j, hjn, hj20, rfl, HA, TI, bwr⟩ := hrel
    by_cases hlt : j < n ∧ j < 20
    · obtain ⟨hj1, hj2⟩ := hlt
      obtain ⟨b, off, rfl, hbB, hcells⟩ := HR.out.resolve_left (by omega)
      obtain ⟨k, hck, k0, k1⟩ := hcells j hj1
      have hbw : b < wr.heap.size := Nat.lt_of_lt_of_le hbB bwr.size
      have hcell : wr.cell? ⟨b, off + j, none⟩ = some (.int .u64 k) := (bwr.cell (p := ⟨b, off + j, none⟩) hbB).trans hck
      have BJ : Hid (IntKind.u8.wrap (j : Int) = j) := Lib.hid (by unfold IntKind.wrap; simp [IntKind.bits, IntKind.signed]; omega)
      have hto : ((by8 (j : Int)).toNat : Int) = (j : Int) := by rw [by8_int]; omega
      obtain ⟨S, hS⟩ : ∃ S, S = closeL kl k (by8 (j : Int)) TX := ⟨_, rfl⟩
      obtain ⟨ls, hls⟩ : ∃ x, x = lt + 16 := ⟨_, rfl⟩
      have HSl := Lib.hid (show S.length = ls by rw [hS, closeL_len, hls, HTl.out])
      have hls16 : 16 ≤ ls := by omega
      have hlsb : ls ≤ 56 := by omega
      have CE := Lib.hid (show ∀ (W : World) (p : Pt), p.l = TX → p.In W W.heap.size → Calls Try.prog 48 #[digV kl, .int .u64 k, .int .u8 (j : Int), p.V] W (TupPost S 0 W) from fun W p h1 i1 => by
        have h := close_any kl HK.out k k0 k1 (by8 (j : Int)) p W i1 (by rw [h1, HTl.out]; omega)
        rw [h1, ← hS, hto] at h
        exact h)
      have O1 := Lib.hid (show ∀ (W : World) (q : Pt), q.l = S → q.In W W.heap.size → Calls Try.prog 54 #[digV kl, .int .u8 (j : Int), q.V] W (TupPost TX 0 W) from fun W q h1 i1 => by
        have h := eopen_any kl HK.out (by8 (j : Int)) q W i1 (by rw [h1, HSl.out]; omega)
        rw [h1, hS, unc_close _ _ k0 k1 _ _ (by rw [HTl.out]; omega), hto] at h
        exact h)
      have SD := Lib.hid (show ∀ (W : World) (q : Pt), q.l = S → q.In W W.heap.size → Calls Try.prog 55 #[q.V] W fun e w' => e = .returned (.int .u64 k) ∧ Ex W w' from fun W q h1 i1 => by
        have h := rseed_any q (by rw [h1, HSl.out]; omega) W i1
        rw [h1, hS, close_take, beV_numL k k0 k1] at h
        exact Calls.mono h fun e w' hh => ⟨hh.1, by rw [← hh.2]; exact Ex.refl _⟩)
      have htl := TL.out
      have hti := TI.out
      have bz := bwr.size
      clear hck hcells hbB hS hls hto
      go_wp2_with fail
      rw [HPT.out]
      obtain ⟨T, hT⟩ : ∃ T : List As3, T = [.is (digV kl), .is (.slice (some ⟨b, off, none⟩) n c), .is (.int .i64 (j : Int)), .is (.pointer (some ⟨b, off + j, none⟩)), .is (.int .u64 k), .is (.int .i64 (j : Int)), .is (.int .u8 (j : Int)), .pt TX, .tup S 0, .tup S 0, .pt S, .is (.int .i64 0), .pt S] := ⟨_, rfl⟩
      refine wp_region_flow 13 (tabPhi3 T) (by kernel_rfl) rfl (by kernel_rfl) (by kernel_rfl) (by kernel_rfl) (tabPhi3_stable T) (fitB_spec (by kernel_rfl)) ?_ ?_
      · intro i o hi ho
        have hi' : i = 0 ∨ i = 1 ∨ i = 2 ∨ i = 3 ∨ i = 4 ∨ i = 5 ∨ i = 6 ∨ i = 7 ∨ i = 8 ∨ i = 9 ∨ i = 10 ∨ i = 11 ∨ i = 12 := by omega
        rcases hi' with rfl | rfl | rfl | rfl | rfl | rfl | rfl | rfl | rfl | rfl | rfl | rfl | rfl
        all_goals (simp only [List.getElem?_toArray, List.getElem?_cons_zero, List.getElem?_cons_succ, Option.some.injEq] at ho; subst ho; intro a w2 hx hsz hdep hout)
        · rw [if_pos (by rfl)]
          intro K hK
          have f := hout 3 (outB_spec (by kernel_rfl))
          exact wp_ld _ w.heap.size kl rfl f (HA.out.ext (Ex.trans (show Ex wr wr.drew from (Below.refl _ _).drew) hx)) (hK _ _ (Ex.refl _) (by rw [hT]; rfl))
        · rw [if_pos (by rfl)]
          intro K hK
          have f := hout 1 (outB_spec (by kernel_rfl))
          exact wp_mv _ rfl (hK _ _ (Ex.refl _) (by rw [hT]; exact f))
        · rw [if_pos (by rfl)]
          intro K hK
          have f := hout 7 (outB_spec (by kernel_rfl))
          exact wp_mv _ rfl (hK _ _ (Ex.refl _) (by rw [hT]; exact f))
        · rw [if_pos (by rfl)]
          intro K hK
          obtain ⟨v, hv, kv⟩ := hdep ⟨1, .data⟩ (by simp) rfl _ rfl
          have qv := kv _ rfl
          rw [hT] at hv
          obtain rfl : v = .slice (some ⟨b, off, none⟩) n c := hv
          obtain ⟨u, hu, ku⟩ := hdep ⟨2, .data⟩ (by simp) rfl _ rfl
          have qu := ku _ rfl
          rw [hT] at hu
          obtain rfl : u = .int .i64 (j : Int) := hu
          clear hsz hdep hout kv ku
          go_simp
          exact hK _ _ (Ex.refl _) (by rw [hT]; rfl)
        · rw [if_pos (by rfl)]
          intro K hK
          obtain ⟨v, hv, kv⟩ := hdep ⟨3, .data⟩ (by simp) rfl _ rfl
          have qv := kv _ rfl
          rw [hT] at hv
          obtain rfl : v = .pointer (some ⟨b, off + j, none⟩) := hv
          have hcell2 : w2.cell? ⟨b, off + j, none⟩ = some (.int .u64 k) := (Below.cell (Ex.trans (show Ex wr wr.drew from (Below.refl _ _).drew) hx) (p := ⟨b, off + j, none⟩) hbw).trans hcell
          clear hsz hdep hout kv
          go_simp
          exact hK _ _ (Ex.refl _) (by rw [hT]; rfl)
        · rw [if_pos (by rfl)]
          intro K hK
          have f := hout 7 (outB_spec (by kernel_rfl))
          exact wp_mv _ rfl (hK _ _ (Ex.refl _) (by rw [hT]; exact f))
        · rw [if_pos (by rfl)]
          intro K hK
          obtain ⟨v, hv, kv⟩ := hdep ⟨5, .data⟩ (by simp) rfl _ rfl
          have qv := kv _ rfl
          rw [hT] at hv
          obtain rfl : v = .int .i64 (j : Int) := hv
          clear hsz hdep hout kv
          go_simp
          exact hK _ _ (Ex.refl _) (by rw [hT]; first | rfl | (show Value.int .u8 (IntKind.u8.wrap (j : Int)) = .int .u8 (j : Int); rw [BJ.out]))
        · rw [if_pos (by rfl)]
          intro K hK
          have f := hout 2 (outB_spec (by kernel_rfl))
          exact wp_mv _ rfl (hK _ _ (Ex.refl _) (by rw [hT]; exact ⟨pt, f, htl, hti.ext (Ex.trans (show Ex wr wr.drew from (Below.refl _ _).drew) hx)⟩))
        · rw [if_pos (by rfl)]
          intro K hK
          obtain ⟨v, hv, kv⟩ := hdep ⟨0, .data⟩ (by simp) rfl _ rfl
          have qv := kv _ rfl
          rw [hT] at hv
          obtain rfl : v = digV kl := hv
          obtain ⟨u, hu, ku⟩ := hdep ⟨4, .data⟩ (by simp) rfl _ rfl
          have qu := ku _ rfl
          rw [hT] at hu
          obtain rfl : u = .int .u64 k := hu
          obtain ⟨x, hx, kx⟩ := hdep ⟨6, .data⟩ (by simp) rfl _ rfl
          have qx := kx _ rfl
          rw [hT] at hx
          obtain rfl : x = .int .u8 (j : Int) := hx
          obtain ⟨y, hy, ky⟩ := hdep ⟨7, .data⟩ (by simp) rfl _ rfl
          have qy := ky _ rfl
          rw [hT] at hy
          obtain ⟨py, rfl, ly, iy⟩ := hy
          go_simp
          refine (CE.out w2 _ ly iy).mono ?_
          rintro e w3 ⟨p, rfl, hl, hin, hex⟩
          exact hK _ _ hex (by rw [hT]; exact ⟨p, rfl, hl, hin⟩)
        · rw [if_pos (by rfl)]
          intro K hK
          obtain ⟨v, hv, kv⟩ := hdep ⟨8, .data⟩ (by simp) rfl _ rfl
          have qv := kv _ rfl
          rw [hT] at hv
          obtain ⟨pv, rfl, lv, iv⟩ := hv
          exact wp_mv _ rfl (hK _ _ (Ex.refl _) (by rw [hT]; exact ⟨pv, qv, lv, iv⟩))
        · rw [if_pos (by rfl)]
          intro K hK
          obtain ⟨v, hv, kv⟩ := hdep ⟨9, .data⟩ (by simp) rfl _ rfl
          have qv := kv _ rfl
          rw [hT] at hv
          obtain ⟨pv, rfl, lv, iv⟩ := hv
          have q : a.tmps[24]?.getD undef = .tuple #[pv.V, .int .i64 0] := by rw [← Array.getD_eq_getD_getElem?]; exact qv
          obtain ⟨vx, hvx⟩ : ∃ v, v = pv.V := ⟨_, rfl⟩
          rw [← hvx] at q
          have HVX := Lib.hid hvx
          clear hsz hdep hout qv kv hvx
          go_simp
          exact hK _ _ (Ex.refl _) (by rw [hT]; exact ⟨pv, HVX.out, lv, iv⟩)
        · rw [if_pos (by rfl)]
          intro K hK
          obtain ⟨v, hv, kv⟩ := hdep ⟨9, .data⟩ (by simp) rfl _ rfl
          have qv := kv _ rfl
          rw [hT] at hv
          obtain ⟨pv, rfl, lv, iv⟩ := hv
          have q : a.tmps[24]?.getD undef = .tuple #[pv.V, .int .i64 0] := by rw [← Array.getD_eq_getD_getElem?]; exact qv
          obtain ⟨vx, hvx⟩ : ∃ v, v = pv.V := ⟨_, rfl⟩
          rw [← hvx] at q
          have HVX := Lib.hid hvx
          clear hsz hdep hout qv kv hvx
          go_simp
          exact hK _ _ (Ex.refl _) (by rw [hT]; rfl)
        · rw [if_pos (by rfl)]
          intro K hK
          obtain ⟨v, hv, kv⟩ := hdep ⟨10, .data⟩ (by simp) rfl _ rfl
          have qv := kv _ rfl
          rw [hT] at hv
          obtain ⟨pv, rfl, lv, iv⟩ := hv
          exact wp_asg2 _ rfl (hK _ _ (Ex.refl _) (by rw [hT]; exact ⟨pv, qv, lv, iv⟩))
      · intro a w2 hx hdef hsz hdone hout
        obtain ⟨sa, hsa, ksa⟩ := hdone 12 _ (by omega) rfl
        have qsa := ksa _ rfl
        rw [hT] at hsa
        obtain ⟨psa, rfl, lsa, isa⟩ := hsa
        obtain ⟨v, hv, kv⟩ := hdone 11 _ (by omega) rfl
        have qv := kv _ rfl
        rw [hT] at hv
        obtain rfl : v = .int .i64 0 := hv
        clear hdone ksa kv hT
        have hA := arr_range a.tmps 70 hsz
        change a.tmps = #[a.tmps[0]?.getD undef, a.tmps[1]?.getD undef, a.tmps[2]?.getD undef, a.tmps[3]?.getD undef, a.tmps[4]?.getD undef, a.tmps[5]?.getD undef, a.tmps[6]?.getD undef, a.tmps[7]?.getD undef, a.tmps[8]?.getD undef, a.tmps[9]?.getD undef, a.tmps[10]?.getD undef, a.tmps[11]?.getD undef, a.tmps[12]?.getD undef, a.tmps[13]?.getD undef, a.tmps[14]?.getD undef, a.tmps[15]?.getD undef, a.tmps[16]?.getD undef, a.tmps[17]?.getD undef, a.tmps[18]?.getD undef, a.tmps[19]?.getD undef, a.tmps[20]?.getD undef, a.tmps[21]?.getD undef, a.tmps[22]?.getD undef, a.tmps[23]?.getD undef, a.tmps[24]?.getD undef, a.tmps[25]?.getD undef, a.tmps[26]?.getD undef, a.tmps[27]?.getD undef, a.tmps[28]?.getD undef, a.tmps[29]?.getD undef, a.tmps[30]?.getD undef, a.tmps[31]?.getD undef, a.tmps[32]?.getD undef, a.tmps[33]?.getD undef, a.tmps[34]?.getD undef, a.tmps[35]?.getD undef, a.tmps[36]?.getD undef, a.tmps[37]?.getD undef, a.tmps[38]?.getD undef, a.tmps[39]?.getD undef, a.tmps[40]?.getD undef, a.tmps[41]?.getD undef, a.tmps[42]?.getD undef, a.tmps[43]?.getD undef, a.tmps[44]?.getD undef, a.tmps[45]?.getD undef, a.tmps[46]?.getD undef, a.tmps[47]?.getD undef, a.tmps[48]?.getD undef, a.tmps[49]?.getD undef, a.tmps[50]?.getD undef, a.tmps[51]?.getD undef, a.tmps[52]?.getD undef, a.tmps[53]?.getD undef, a.tmps[54]?.getD undef, a.tmps[55]?.getD undef, a.tmps[56]?.getD undef, a.tmps[57]?.getD undef, a.tmps[58]?.getD undef, a.tmps[59]?.getD undef, a.tmps[60]?.getD undef, a.tmps[61]?.getD undef, a.tmps[62]?.getD undef, a.tmps[63]?.getD undef, a.tmps[64]?.getD undef, a.tmps[65]?.getD undef, a.tmps[66]?.getD undef, a.tmps[67]?.getD undef, a.tmps[68]?.getD undef, a.tmps[69]?.getD undef] at hA
        have e0 := hout 0 (fun i o _ h => outB_spec (by kernel_rfl) i o h)
        have e1 := hout 1 (fun i o _ h => outB_spec (by kernel_rfl) i o h)
        have e2 := hout 2 (fun i o _ h => outB_spec (by kernel_rfl) i o h)
        have e3 := hout 3 (fun i o _ h => outB_spec (by kernel_rfl) i o h)
        have e4 := hout 4 (fun i o _ h => outB_spec (by kernel_rfl) i o h)
        have e5 := hout 5 (fun i o _ h => outB_spec (by kernel_rfl) i o h)
        have e6 := hout 6 (fun i o _ h => outB_spec (by kernel_rfl) i o h)
        have e7 := hout 7 (fun i o _ h => outB_spec (by kernel_rfl) i o h)
        have e10 := hout 10 (fun i o _ h => outB_spec (by kernel_rfl) i o h)
        have e11 := hout 11 (fun i o _ h => outB_spec (by kernel_rfl) i o h)
        have e12 := hout 12 (fun i o _ h => outB_spec (by kernel_rfl) i o h)
        have e13 := hout 13 (fun i o _ h => outB_spec (by kernel_rfl) i o h)
        have e14 := hout 14 (fun i o _ h => outB_spec (by kernel_rfl) i o h)
        have e15 := hout 15 (fun i o _ h => outB_spec (by kernel_rfl) i o h)
        have e16 := hout 16 (fun i o _ h => outB_spec (by kernel_rfl) i o h)
        have e17 := hout 17 (fun i o _ h => outB_spec (by kernel_rfl) i o h)
        have e18 := hout 18 (fun i o _ h => outB_spec (by kernel_rfl) i o h)
        have e19 := hout 19 (fun i o _ h => outB_spec (by kernel_rfl) i o h)
        have e20 := hout 20 (fun i o _ h => outB_spec (by kernel_rfl) i o h)
        have e21 := hout 21 (fun i o _ h => outB_spec (by kernel_rfl) i o h)
        have e22 := hout 22 (fun i o _ h => outB_spec (by kernel_rfl) i o h)
        have e23 := hout 23 (fun i o _ h => outB_spec (by kernel_rfl) i o h)
        have e36 := hout 36 (fun i o _ h => outB_spec (by kernel_rfl) i o h)
        have e37 := hout 37 (fun i o _ h => outB_spec (by kernel_rfl) i o h)
        have e38 := hout 38 (fun i o _ h => outB_spec (by kernel_rfl) i o h)
        have e39 := hout 39 (fun i o _ h => outB_spec (by kernel_rfl) i o h)
        have e40 := hout 40 (fun i o _ h => outB_spec (by kernel_rfl) i o h)
        have e41 := hout 41 (fun i o _ h => outB_spec (by kernel_rfl) i o h)
        have e42 := hout 42 (fun i o _ h => outB_spec (by kernel_rfl) i o h)
        have e43 := hout 43 (fun i o _ h => outB_spec (by kernel_rfl) i o h)
        have e44 := hout 44 (fun i o _ h => outB_spec (by kernel_rfl) i o h)
        have e45 := hout 45 (fun i o _ h => outB_spec (by kernel_rfl) i o h)
        have e46 := hout 46 (fun i o _ h => outB_spec (by kernel_rfl) i o h)
        have e47 := hout 47 (fun i o _ h => outB_spec (by kernel_rfl) i o h)
        have e48 := hout 48 (fun i o _ h => outB_spec (by kernel_rfl) i o h)
        have e49 := hout 49 (fun i o _ h => outB_spec (by kernel_rfl) i o h)
        have e50 := hout 50 (fun i o _ h => outB_spec (by kernel_rfl) i o h)
        have e51 := hout 51 (fun i o _ h => outB_spec (by kernel_rfl) i o h)
        have e52 := hout 52 (fun i o _ h => outB_spec (by kernel_rfl) i o h)
        have e53 := hout 53 (fun i o _ h => outB_spec (by kernel_rfl) i o h)
        have e54 := hout 54 (fun i o _ h => outB_spec (by kernel_rfl) i o h)
        have e55 := hout 55 (fun i o _ h => outB_spec (by kernel_rfl) i o h)
        have e56 := hout 56 (fun i o _ h => outB_spec (by kernel_rfl) i o h)
        have e57 := hout 57 (fun i o _ h => outB_spec (by kernel_rfl) i o h)
        have e58 := hout 58 (fun i o _ h => outB_spec (by kernel_rfl) i o h)
        have e59 := hout 59 (fun i o _ h => outB_spec (by kernel_rfl) i o h)
        have e60 := hout 60 (fun i o _ h => outB_spec (by kernel_rfl) i o h)
        have e61 := hout 61 (fun i o _ h => outB_spec (by kernel_rfl) i o h)
        have e62 := hout 62 (fun i o _ h => outB_spec (by kernel_rfl) i o h)
        have e63 := hout 63 (fun i o _ h => outB_spec (by kernel_rfl) i o h)
        have e64 := hout 64 (fun i o _ h => outB_spec (by kernel_rfl) i o h)
        have e65 := hout 65 (fun i o _ h => outB_spec (by kernel_rfl) i o h)
        have e66 := hout 66 (fun i o _ h => outB_spec (by kernel_rfl) i o h)
        have e67 := hout 67 (fun i o _ h => outB_spec (by kernel_rfl) i o h)
        have e68 := hout 68 (fun i o _ h => outB_spec (by kernel_rfl) i o h)
        have e69 := hout 69 (fun i o _ h => outB_spec (by kernel_rfl) i o h)
        simp only [Array.getD_eq_getD_getElem?, List.getElem?_toArray, List.getElem?_cons_zero, List.getElem?_cons_succ, Option.getD_some] at e0 e1 e2 e3 e4 e5 e6 e7 e10 e11 e12 e13 e14 e15 e16 e17 e18 e19 e20 e21 e22 e23 e36 e37 e38 e39 e40 e41 e42 e43 e44 e45 e46 e47 e48 e49 e50 e51 e52 e53 e54 e55 e56 e57 e58 e59 e60 e61 e62 e63 e64 e65 e66 e67 e68 e69
        rw [e0, e1, e2, e3, e4, e5, e6, e7, e10, e11, e12, e13, e14, e15, e16, e17, e18, e19, e20, e21, e22, e23, e36, e37, e38, e39, e40, e41, e42, e43, e44, e45, e46, e47, e48, e49, e50, e51, e52, e53, e54, e55, e56, e57, e58, e59, e60, e61, e62, e63, e64, e65, e66, e67, e68, e69] at hA
        clear e0 e1 e2 e3 e4 e5 e6 e7 e10 e11 e12 e13 e14 e15 e16 e17 e18 e19 e20 e21 e22 e23 e36 e37 e38 e39 e40 e41 e42 e43 e44 e45 e46 e47 e48 e49 e50 e51 e52 e53 e54 e55 e56 e57 e58 e59 e60 e61 e62 e63 e64 e65 e66 e67 e68 e69 hout
        have hds2 : a.defers = [] := hdef
        have ea : a = ⟨a.tmps, a.defers⟩ := rfl
        have s8 : a.tmps[8]?.getD undef = psa.V := by simpa [Array.getD_eq_getD_getElem?] using qsa
        have s35 : a.tmps[35]?.getD undef = .int .i64 0 := by simpa [Array.getD_eq_getD_getElem?] using qv
        rw [hA, hds2, s8, s35] at ea
        clear hA hds2 s8 qsa s35 qv hdef
        generalize a.tmps[25]?.getD undef = y25 at ea
        generalize a.tmps[26]?.getD undef = y26 at ea
        generalize a.tmps[27]?.getD undef = y27 at ea
        generalize a.tmps[28]?.getD undef = y28 at ea
        generalize a.tmps[29]?.getD undef = y29 at ea
        generalize a.tmps[30]?.getD undef = y30 at ea
        generalize a.tmps[31]?.getD undef = y31 at ea
        generalize a.tmps[32]?.getD undef = y32 at ea
        generalize a.tmps[33]?.getD undef = y33 at ea
        generalize a.tmps[24]?.getD undef = y24 at ea
        generalize a.tmps[34]?.getD undef = y34 at ea
        generalize a.tmps[9]?.getD undef = y9 at ea
        clear hsz
        subst ea
        have bx : Below wr.heap.size wr w2 := Below.trans (Below.refl _ _).drew hx
        unfold wpOp
        simp only [List.getElem?_toArray, List.getElem?_cons_zero, List.getElem?_cons_succ]
        rw [if_pos (by rfl)]
        left
        have HA2 := Lib.hid (HA.out.ext (show Ex wr w2 from bx))
        have hti2 := Lib.hid (hti.ext (show Ex wr w2 from bx))
        have SI := Lib.hid isa
        have bw2 := bwr.trans (bx.mono bz)
        have hcell' := (Below.cell bx (p := ⟨b, off + j, none⟩) hbw).trans hcell
        have hbw' : b < w2.heap.size := Nat.lt_of_lt_of_le hbw bx.size
        obtain ⟨psV, hpsV⟩ : ∃ v, v = psa.V := ⟨_, rfl⟩
        have HPS := Lib.hid hpsV
        rw [← hpsV]
        rw [← HPT.out]
        clear HA TI hti isa bwr bz bx hx hpsV hcell hbw CE
        have hcell := hcell'
        have hbw := hbw'
        clear hcell' hbw'
        go_simp
        rw [HPS.out]
        have isa := SI.out
        go_wp2_with fail
        generalize w2 = wr at *
        obtain ⟨T, hT⟩ : ∃ T : List As, T = [.is (.int .i64 0), .is (.bool false), .is (.bool false), .pt S, .is (.int .i64 (ls : Int)), .is (.bool false), .is (.bool false), .is (.bool false), .pt S, .is (.int .u64 k), .is (.slice (some ⟨b, off, none⟩) n c), .is (.int .i64 (j : Int)), .is (.pointer (some ⟨b, off + j, none⟩)), .is (.int .u64 k), .is (.bool false)] := ⟨_, rfl⟩
        refine wp_region_flow 15 (tabPhi T) (by kernel_rfl) rfl (by kernel_rfl) (by kernel_rfl) (by kernel_rfl) (tabPhi_stable T) (fitB_spec (by kernel_rfl)) ?_ ?_
        · intro i o hi ho
          have hi' : i = 0 ∨ i = 1 ∨ i = 2 ∨ i = 3 ∨ i = 4 ∨ i = 5 ∨ i = 6 ∨ i = 7 ∨ i = 8 ∨ i = 9 ∨ i = 10 ∨ i = 11 ∨ i = 12 ∨ i = 13 ∨ i = 14 := by omega
          rcases hi' with rfl | rfl | rfl | rfl | rfl | rfl | rfl | rfl | rfl | rfl | rfl | rfl | rfl | rfl | rfl
          all_goals (simp only [List.getElem?_toArray, List.getElem?_cons_zero, List.getElem?_cons_succ, Option.some.injEq] at ho; subst ho; intro a w2 hx hsz hdep hout)
          · rw [if_pos (by rfl)]
            intro K hK
            have f := hout 9 (outB_spec (by kernel_rfl))
            exact wp_mv _ rfl (hK _ _ (Ex.refl _) (by rw [hT]; exact f))
          · rw [if_pos (by rfl)]
            intro K hK
            obtain ⟨v, hv, kv⟩ := hdep ⟨0, .data⟩ (by simp) rfl _ rfl
            have qv := kv _ rfl
            rw [hT] at hv
            obtain rfl : v = .int .i64 0 := hv
            clear hsz hdep hout kv
            go_simp
            exact hK _ _ (Ex.refl _) (by rw [hT]; rfl)
          · rw [if_pos (by rfl)]
            intro K hK
            obtain ⟨v, hv, kv⟩ := hdep ⟨1, .data⟩ (by simp) rfl _ rfl
            have qv := kv _ rfl
            rw [hT] at hv
            obtain rfl : v = .bool false := hv
            exact wp_mv _ rfl (hK _ _ (Ex.refl _) (by rw [hT]; exact qv))
          · obtain ⟨vg, hvg, kg⟩ := hdep ⟨2, .guard⟩ (by simp) rfl _ rfl
            rw [hT] at hvg
            obtain rfl : vg = .bool false := hvg
            rw [if_pos (wanted_of rfl rfl rfl (kg _ rfl))]
            intro K hK
            have f := hout 8 (outB_spec (by kernel_rfl))
            exact wp_mv _ rfl (hK _ _ (Ex.refl _) (by rw [hT]; exact ⟨psa, f, lsa, isa.ext (Ex.trans (show Ex wr wr.drew from (Below.refl _ _).drew) hx)⟩))
          · obtain ⟨vg, hvg, kg⟩ := hdep ⟨2, .guard⟩ (by simp) rfl _ rfl
            rw [hT] at hvg
            obtain rfl : vg = .bool false := hvg
            rw [if_pos (wanted_of rfl rfl rfl (kg _ rfl))]
            intro K hK
            obtain ⟨v, hv, kv⟩ := hdep ⟨3, .data⟩ (by simp) rfl _ rfl
            have qv := kv _ rfl
            rw [hT] at hv
            obtain ⟨pv, rfl, lv, iv⟩ := hv
            have q : a.tmps[39]?.getD undef = .slice pv.ad ls pv.cap := by rw [← Array.getD_eq_getD_getElem?, qv]; unfold Pt.V; rw [lv, HSl.out]
            clear hsz hdep hout qv kv lv kg
            go_simp
            exact hK _ _ (Ex.refl _) (by rw [hT]; rfl)
          · obtain ⟨vg, hvg, kg⟩ := hdep ⟨2, .guard⟩ (by simp) rfl _ rfl
            rw [hT] at hvg
            obtain rfl : vg = .bool false := hvg
            rw [if_pos (wanted_of rfl rfl rfl (kg _ rfl))]
            intro K hK
            obtain ⟨v, hv, kv⟩ := hdep ⟨4, .data⟩ (by simp) rfl _ rfl
            have qv := kv _ rfl
            rw [hT] at hv
            obtain rfl : v = .int .i64 (ls : Int) := hv
            clear hsz hdep hout kv kg
            have hz : ¬ (ls : Int) < 16 := by omega
            go_simp
            exact hK _ _ (Ex.refl _) (by rw [hT]; first | rfl | (show Value.bool _ = .bool false; simp; omega))
          · rw [if_pos (by rfl)]
            intro K hK
            obtain ⟨v, hv, kv⟩ := hdep ⟨2, .data⟩ (by simp) rfl _ rfl
            have qv := kv _ rfl
            rw [hT] at hv
            obtain rfl : v = .bool false := hv
            obtain ⟨u, hu, ku⟩ := hdep ⟨5, .data⟩ (by simp) rfl _ rfl
            have qu := ku _ rfl
            rw [hT] at hu
            obtain rfl : u = .bool false := hu
            clear hsz hdep hout
            go_simp
            exact hK _ _ (Ex.refl _) (by rw [hT]; rfl)
          · rw [if_pos (by rfl)]
            intro K hK
            obtain ⟨v, hv, kv⟩ := hdep ⟨6, .data⟩ (by simp) rfl _ rfl
            have qv := kv _ rfl
            rw [hT] at hv
            obtain rfl : v = .bool false := hv
            exact wp_mv _ rfl (hK _ _ (Ex.refl _) (by rw [hT]; exact qv))
          · obtain ⟨vg, hvg, kg⟩ := hdep ⟨7, .guard⟩ (by simp) rfl _ rfl
            rw [hT] at hvg
            obtain rfl : vg = .bool false := hvg
            rw [if_pos (wanted_of rfl rfl rfl (kg _ rfl))]
            intro K hK
            have f := hout 8 (outB_spec (by kernel_rfl))
            exact wp_mv _ rfl (hK _ _ (Ex.refl _) (by rw [hT]; exact ⟨psa, f, lsa, isa.ext (Ex.trans (show Ex wr wr.drew from (Below.refl _ _).drew) hx)⟩))
          · obtain ⟨vg, hvg, kg⟩ := hdep ⟨7, .guard⟩ (by simp) rfl _ rfl
            rw [hT] at hvg
            obtain rfl : vg = .bool false := hvg
            rw [if_pos (wanted_of rfl rfl rfl (kg _ rfl))]
            intro K hK
            obtain ⟨v, hv, kv⟩ := hdep ⟨8, .data⟩ (by simp) rfl _ rfl
            have qv := kv _ rfl
            rw [hT] at hv
            obtain ⟨pv, rfl, lv, iv⟩ := hv
            go_simp
            refine (SD.out w2 pv lv iv).mono ?_
            rintro e w3 ⟨rfl, hex⟩
            exact hK _ _ hex (by rw [hT]; rfl)
          · obtain ⟨vg, hvg, kg⟩ := hdep ⟨7, .guard⟩ (by simp) rfl _ rfl
            rw [hT] at hvg
            obtain rfl : vg = .bool false := hvg
            rw [if_pos (wanted_of rfl rfl rfl (kg _ rfl))]
            intro K hK
            have f := hout 1 (outB_spec (by kernel_rfl))
            exact wp_mv _ rfl (hK _ _ (Ex.refl _) (by rw [hT]; exact f))
          · obtain ⟨vg, hvg, kg⟩ := hdep ⟨7, .guard⟩ (by simp) rfl _ rfl
            rw [hT] at hvg
            obtain rfl : vg = .bool false := hvg
            rw [if_pos (wanted_of rfl rfl rfl (kg _ rfl))]
            intro K hK
            have f := hout 7 (outB_spec (by kernel_rfl))
            exact wp_mv _ rfl (hK _ _ (Ex.refl _) (by rw [hT]; exact f))
          · obtain ⟨vg, hvg, kg⟩ := hdep ⟨7, .guard⟩ (by simp) rfl _ rfl
            rw [hT] at hvg
            obtain rfl : vg = .bool false := hvg
            rw [if_pos (wanted_of rfl rfl rfl (kg _ rfl))]
            intro K hK
            obtain ⟨v, hv, kv⟩ := hdep ⟨10, .data⟩ (by simp) rfl _ rfl
            have qv := kv _ rfl
            rw [hT] at hv
            obtain rfl : v = .slice (some ⟨b, off, none⟩) n c := hv
            obtain ⟨u, hu, ku⟩ := hdep ⟨11, .data⟩ (by simp) rfl _ rfl
            have qu := ku _ rfl
            rw [hT] at hu
            obtain rfl : u = .int .i64 (j : Int) := hu
            clear hsz hdep hout kv ku kg
            go_simp
            exact hK _ _ (Ex.refl _) (by rw [hT]; rfl)
          · obtain ⟨vg, hvg, kg⟩ := hdep ⟨7, .guard⟩ (by simp) rfl _ rfl
            rw [hT] at hvg
            obtain rfl : vg = .bool false := hvg
            rw [if_pos (wanted_of rfl rfl rfl (kg _ rfl))]
            intro K hK
            obtain ⟨v, hv, kv⟩ := hdep ⟨12, .data⟩ (by simp) rfl _ rfl
            have qv := kv _ rfl
            rw [hT] at hv
            obtain rfl : v = .pointer (some ⟨b, off + j, none⟩) := hv
            have hcell2 : w2.cell? ⟨b, off + j, none⟩ = some (.int .u64 k) := (Below.cell (Ex.trans (show Ex wr wr.drew from (Below.refl _ _).drew) hx) (p := ⟨b, off + j, none⟩) hbw).trans hcell
            clear hsz hdep hout kv kg
            go_simp
            exact hK _ _ (Ex.refl _) (by rw [hT]; rfl)
          · obtain ⟨vg, hvg, kg⟩ := hdep ⟨7, .guard⟩ (by simp) rfl _ rfl
            rw [hT] at hvg
            obtain rfl : vg = .bool false := hvg
            rw [if_pos (wanted_of rfl rfl rfl (kg _ rfl))]
            intro K hK
            obtain ⟨v, hv, kv⟩ := hdep ⟨9, .data⟩ (by simp) rfl _ rfl
            have qv := kv _ rfl
            rw [hT] at hv
            obtain rfl : v = .int .u64 k := hv
            obtain ⟨u, hu, ku⟩ := hdep ⟨13, .data⟩ (by simp) rfl _ rfl
            have qu := ku _ rfl
            rw [hT] at hu
            obtain rfl : u = .int .u64 k := hu
            clear hsz hdep hout kg kv ku
            go_simp
            exact hK _ _ (Ex.refl _) (by rw [hT]; rfl)
        · intro a w2 hx hdef hsz hdone hout
          obtain ⟨v, hv, kv⟩ := hdone 7 _ (by omega) rfl
          have qv := kv _ rfl
          rw [hT] at hv
          obtain rfl : v = .bool false := hv
          obtain ⟨u, hu, ku⟩ := hdone 14 _ (by omega) rfl
          have qu := ku _ rfl
          rw [hT] at hu
          obtain rfl : u = .bool false := hu
          clear hdone kv ku hT
          have hA := arr_range a.tmps 70 hsz
          change a.tmps = #[a.tmps[0]?.getD undef, a.tmps[1]?.getD undef, a.tmps[2]?.getD undef, a.tmps[3]?.getD undef, a.tmps[4]?.getD undef, a.tmps[5]?.getD undef, a.tmps[6]?.getD undef, a.tmps[7]?.getD undef, a.tmps[8]?.getD undef, a.tmps[9]?.getD undef, a.tmps[10]?.getD undef, a.tmps[11]?.getD undef, a.tmps[12]?.getD undef, a.tmps[13]?.getD undef, a.tmps[14]?.getD undef, a.tmps[15]?.getD undef, a.tmps[16]?.getD undef, a.tmps[17]?.getD undef, a.tmps[18]?.getD undef, a.tmps[19]?.getD undef, a.tmps[20]?.getD undef, a.tmps[21]?.getD undef, a.tmps[22]?.getD undef, a.tmps[23]?.getD undef, a.tmps[24]?.getD undef, a.tmps[25]?.getD undef, a.tmps[26]?.getD undef, a.tmps[27]?.getD undef, a.tmps[28]?.getD undef, a.tmps[29]?.getD undef, a.tmps[30]?.getD undef, a.tmps[31]?.getD undef, a.tmps[32]?.getD undef, a.tmps[33]?.getD undef, a.tmps[34]?.getD undef, a.tmps[35]?.getD undef, a.tmps[36]?.getD undef, a.tmps[37]?.getD undef, a.tmps[38]?.getD undef, a.tmps[39]?.getD undef, a.tmps[40]?.getD undef, a.tmps[41]?.getD undef, a.tmps[42]?.getD undef, a.tmps[43]?.getD undef, a.tmps[44]?.getD undef, a.tmps[45]?.getD undef, a.tmps[46]?.getD undef, a.tmps[47]?.getD undef, a.tmps[48]?.getD undef, a.tmps[49]?.getD undef, a.tmps[50]?.getD undef, a.tmps[51]?.getD undef, a.tmps[52]?.getD undef, a.tmps[53]?.getD undef, a.tmps[54]?.getD undef, a.tmps[55]?.getD undef, a.tmps[56]?.getD undef, a.tmps[57]?.getD undef, a.tmps[58]?.getD undef, a.tmps[59]?.getD undef, a.tmps[60]?.getD undef, a.tmps[61]?.getD undef, a.tmps[62]?.getD undef, a.tmps[63]?.getD undef, a.tmps[64]?.getD undef, a.tmps[65]?.getD undef, a.tmps[66]?.getD undef, a.tmps[67]?.getD undef, a.tmps[68]?.getD undef, a.tmps[69]?.getD undef] at hA
          have e0 := hout 0 (fun i o _ h => outB_spec (by kernel_rfl) i o h)
          have e1 := hout 1 (fun i o _ h => outB_spec (by kernel_rfl) i o h)
          have e2 := hout 2 (fun i o _ h => outB_spec (by kernel_rfl) i o h)
          have e3 := hout 3 (fun i o _ h => outB_spec (by kernel_rfl) i o h)
          have e4 := hout 4 (fun i o _ h => outB_spec (by kernel_rfl) i o h)
          have e5 := hout 5 (fun i o _ h => outB_spec (by kernel_rfl) i o h)
          have e6 := hout 6 (fun i o _ h => outB_spec (by kernel_rfl) i o h)
          have e7 := hout 7 (fun i o _ h => outB_spec (by kernel_rfl) i o h)
          have e8 := hout 8 (fun i o _ h => outB_spec (by kernel_rfl) i o h)
          have e9 := hout 9 (fun i o _ h => outB_spec (by kernel_rfl) i o h)
          have e10 := hout 10 (fun i o _ h => outB_spec (by kernel_rfl) i o h)
          have e11 := hout 11 (fun i o _ h => outB_spec (by kernel_rfl) i o h)
          have e12 := hout 12 (fun i o _ h => outB_spec (by kernel_rfl) i o h)
          have e13 := hout 13 (fun i o _ h => outB_spec (by kernel_rfl) i o h)
          have e14 := hout 14 (fun i o _ h => outB_spec (by kernel_rfl) i o h)
          have e15 := hout 15 (fun i o _ h => outB_spec (by kernel_rfl) i o h)
          have e16 := hout 16 (fun i o _ h => outB_spec (by kernel_rfl) i o h)
          have e17 := hout 17 (fun i o _ h => outB_spec (by kernel_rfl) i o h)
          have e18 := hout 18 (fun i o _ h => outB_spec (by kernel_rfl) i o h)
          have e19 := hout 19 (fun i o _ h => outB_spec (by kernel_rfl) i o h)
          have e20 := hout 20 (fun i o _ h => outB_spec (by kernel_rfl) i o h)
          have e21 := hout 21 (fun i o _ h => outB_spec (by kernel_rfl) i o h)
          have e22 := hout 22 (fun i o _ h => outB_spec (by kernel_rfl) i o h)
          have e23 := hout 23 (fun i o _ h => outB_spec (by kernel_rfl) i o h)
          have e24 := hout 24 (fun i o _ h => outB_spec (by kernel_rfl) i o h)
          have e25 := hout 25 (fun i o _ h => outB_spec (by kernel_rfl) i o h)
          have e26 := hout 26 (fun i o _ h => outB_spec (by kernel_rfl) i o h)
          have e27 := hout 27 (fun i o _ h => outB_spec (by kernel_rfl) i o h)
          have e28 := hout 28 (fun i o _ h => outB_spec (by kernel_rfl) i o h)
          have e29 := hout 29 (fun i o _ h => outB_spec (by kernel_rfl) i o h)
          have e30 := hout 30 (fun i o _ h => outB_spec (by kernel_rfl) i o h)
          have e31 := hout 31 (fun i o _ h => outB_spec (by kernel_rfl) i o h)
          have e32 := hout 32 (fun i o _ h => outB_spec (by kernel_rfl) i o h)
          have e33 := hout 33 (fun i o _ h => outB_spec (by kernel_rfl) i o h)
          have e34 := hout 34 (fun i o _ h => outB_spec (by kernel_rfl) i o h)
          have e35 := hout 35 (fun i o _ h => outB_spec (by kernel_rfl) i o h)
          have e52 := hout 52 (fun i o _ h => outB_spec (by kernel_rfl) i o h)
          have e53 := hout 53 (fun i o _ h => outB_spec (by kernel_rfl) i o h)
          have e54 := hout 54 (fun i o _ h => outB_spec (by kernel_rfl) i o h)
          have e55 := hout 55 (fun i o _ h => outB_spec (by kernel_rfl) i o h)
          have e56 := hout 56 (fun i o _ h => outB_spec (by kernel_rfl) i o h)
          have e57 := hout 57 (fun i o _ h => outB_spec (by kernel_rfl) i o h)
          have e58 := hout 58 (fun i o _ h => outB_spec (by kernel_rfl) i o h)
          have e59 := hout 59 (fun i o _ h => outB_spec (by kernel_rfl) i o h)
          have e60 := hout 60 (fun i o _ h => outB_spec (by kernel_rfl) i o h)
          have e61 := hout 61 (fun i o _ h => outB_spec (by kernel_rfl) i o h)
          have e62 := hout 62 (fun i o _ h => outB_spec (by kernel_rfl) i o h)
          have e63 := hout 63 (fun i o _ h => outB_spec (by kernel_rfl) i o h)
          have e64 := hout 64 (fun i o _ h => outB_spec (by kernel_rfl) i o h)
          have e65 := hout 65 (fun i o _ h => outB_spec (by kernel_rfl) i o h)
          have e66 := hout 66 (fun i o _ h => outB_spec (by kernel_rfl) i o h)
          have e67 := hout 67 (fun i o _ h => outB_spec (by kernel_rfl) i o h)
          have e68 := hout 68 (fun i o _ h => outB_spec (by kernel_rfl) i o h)
          have e69 := hout 69 (fun i o _ h => outB_spec (by kernel_rfl) i o h)
          simp only [Array.getD_eq_getD_getElem?, List.getElem?_toArray, List.getElem?_cons_zero, List.getElem?_cons_succ, Option.getD_some] at e0 e1 e2 e3 e4 e5 e6 e7 e8 e9 e10 e11 e12 e13 e14 e15 e16 e17 e18 e19 e20 e21 e22 e23 e24 e25 e26 e27 e28 e29 e30 e31 e32 e33 e34 e35 e52 e53 e54 e55 e56 e57 e58 e59 e60 e61 e62 e63 e64 e65 e66 e67 e68 e69
          rw [e0, e1, e2, e3, e4, e5, e6, e7, e8, e9, e10, e11, e12, e13, e14, e15, e16, e17, e18, e19, e20, e21, e22, e23, e24, e25, e26, e27, e28, e29, e30, e31, e32, e33, e34, e35, e52, e53, e54, e55, e56, e57, e58, e59, e60, e61, e62, e63, e64, e65, e66, e67, e68, e69] at hA
          clear e0 e1 e2 e3 e4 e5 e6 e7 e8 e9 e10 e11 e12 e13 e14 e15 e16 e17 e18 e19 e20 e21 e22 e23 e24 e25 e26 e27 e28 e29 e30 e31 e32 e33 e34 e35 e52 e53 e54 e55 e56 e57 e58 e59 e60 e61 e62 e63 e64 e65 e66 e67 e68 e69 hout
          have hds2 : a.defers = [] := hdef
          have ea : a = ⟨a.tmps, a.defers⟩ := rfl
          have s43 : a.tmps[43]?.getD undef = .bool false := by simpa [Array.getD_eq_getD_getElem?] using qv
          have s50 : a.tmps[50]?.getD undef = .bool false := by simpa [Array.getD_eq_getD_getElem?] using qu
          rw [hA, hds2, s43, s50] at ea
          clear hA hds2 s43 qv s50 qu hdef
          generalize a.tmps[36]?.getD undef = y36 at ea
          generalize a.tmps[37]?.getD undef = y37 at ea
          generalize a.tmps[38]?.getD undef = y38 at ea
          generalize a.tmps[39]?.getD undef = y39 at ea
          generalize a.tmps[40]?.getD undef = y40 at ea
          generalize a.tmps[41]?.getD undef = y41 at ea
          generalize a.tmps[42]?.getD undef = y42 at ea
          generalize a.tmps[44]?.getD undef = y44 at ea
          generalize a.tmps[45]?.getD undef = y45 at ea
          generalize a.tmps[46]?.getD undef = y46 at ea
          generalize a.tmps[47]?.getD undef = y47 at ea
          generalize a.tmps[48]?.getD undef = y48 at ea
          generalize a.tmps[49]?.getD undef = y49 at ea
          generalize a.tmps[51]?.getD undef = y51 at ea
          clear hsz
          subst ea
          have bx : Below wr.heap.size wr w2 := Below.trans (Below.refl _ _).drew hx
          unfold wpOp
          simp only [List.getElem?_toArray, List.getElem?_cons_zero, List.getElem?_cons_succ]
          rw [if_pos (by rfl)]
          left
          have HA3 := Lib.hid (HA2.out.ext (show Ex wr w2 from bx))
          have TI3 := Lib.hid (hti2.out.ext (show Ex wr w2 from bx))
          have SI3 := isa.ext (show Ex wr w2 from bx)
          have bw3 := bw2.trans (bx.mono bw2.size)
          have OC := O1.out w2 psa lsa SI3
          rw [← HPS.out] at OC
          have OC := Lib.hid OC
          rw [← HPS.out]
          clear HA2 hti2 isa SI SI3 bw2 bx hx O1 SD
          go_simp
          go_wp2_with ((with_reducible refine at_any ?_ ?_); (focus go_simp); (refine fun K hK => wp_ld _ _ kl rfl rfl (HA3.out) (hK _ _ ?_)))
          refine OC.out.mono ?_
          rintro e w4 ⟨q, rfl, ql, qi, x4⟩
          have hqv : q.V = .slice q.ad lt q.cap := by unfold Pt.V; rw [ql, HTl.out]
          have htv2 : ptV = .slice pt.ad lt pt.cap := by rw [HPT.out]; unfold Pt.V; rw [TL.out, HTl.out]
          rw [hqv, htv2]
          have TI4 := TI3.out.ext x4
          have cv := pt_conv q w4 qi
          rw [ql, HTl.out] at cv
          have cv2 := pt_conv pt w4 TI4
          rw [TL.out, HTl.out] at cv2
          have TI4 := Lib.hid TI4
          have HA4 := Lib.hid (HA3.out.ext x4)
          have bw4 : Below w.heap.size w w4 := bw3.trans (x4.mono bw3.size)
          have HTV := Lib.hid htv2
          generalize strL TX = s1 at cv cv2
          clear OC HA3 TI3 bw3 x4 hqv ql qi htv2
          go_wp2_with fail
          rw [← HTV.out]
          go_roundw
          case rel => exact ⟨j + 1, by omega, by omega, by go_num, HA4, TI4, bw4⟩
          case measure => simp [intOf]; omega
    · have KN := Lib.hid (known5_any wr)
      by_cases hj1 : j < n
      · have hj2 : ¬ j < 20 := fun h => hlt ⟨hj1, h⟩
        clear hlt
        go_wp2_with fail
        refine KN.out.mono ?_
        rintro e w6 ⟨rfl, x6⟩
        have bw6 : Below w.heap.size w w6 := bwr.trans (x6.mono bwr.size)
        clear x6 KN
        go_wp2_with fail
        go_ret
        exact ⟨rfl, bw6⟩
      · clear hlt
        go_wp2_with fail
        refine KN.out.mono ?_
        rintro e w6 ⟨rfl, x6⟩
        have bw6 : Below w.heap.size w w6 := bwr.trans (x6.mono bwr.size)
        clear x6 KN
        go_wp2_with fail
        go_ret
        exact ⟨rfl, bw6⟩
theorem envelopeSeeds_law (v0 v1 v2 : Value) (w : World) (h0 : ∃ l : List UInt8, l.length = 16 ∧ v0 = digV l) (h1 : U64Row w v1) (h2 : ∃ p : Pt, v2 = p.V ∧ p.In w w.heap.size ∧ p.l.length ≤ 9223372036854775807) :
    Calls Try.prog 19 #[v0, v1, v2] w fun e w' => e = .returned (.bool true) ∧ Below w.heap.size w w' := by
  obtain ⟨A, hA, rfl⟩ := h0
  obtain ⟨q, rfl, hq, hq2⟩ := h2
  exact eseeds_any A hA v1 q w h1 hq hq2
end Go.Proofs.Ytkneeocicbadjaa
