/- walks: VeilNumbers -/
import Derived.Test.YtkneeocicbadjaaVnA
namespace Go.Proofs.Ytkneeocicbadjaa
open Go.RowKit
set_option maxHeartbeats 8000000 in
set_option maxRecDepth 100000 in
theorem vnumbers_any (w : World) :
    Calls Try.prog 12 #[] w fun e w' => e = .returned (.bool true) ∧ Below w.heap.size w w' := by
  obtain ⟨kl, hkl⟩ : ∃ l : List UInt8, l = [7, 7, 0, 0, 0, 0, 0, 0, 0, 0, 0, 0, 0, 0, 0, 0] := ⟨_, rfl⟩
  have hv : digV kl = (.agg #[.int .u8 7, .int .u8 7, .int .u8 0, .int .u8 0, .int .u8 0, .int .u8 0, .int .u8 0, .int .u8 0, .int .u8 0, .int .u8 0, .int .u8 0, .int .u8 0, .int .u8 0, .int .u8 0, .int .u8 0, .int .u8 0]) := by rw [hkl]; rfl
  have hkll : kl.length = 16 := by rw [hkl]; rfl
  have HV := Lib.hid hv
  have HK := Lib.hid hkll
  clear hv hkl hkll
  go_enter Try.func12, Try.ntmps12
  go_wp2_with ((with_reducible refine at_any ?_ ?_); (focus go_simp); (refine fun K hK => wp_st _ _ w.heap.size kl rfl rfl HV.out.symm HK.out (Bk.new rfl _ _) rfl (fun w1 hd ho => hK _ _ ?_)))
  have xz : Ex w (w.alloc (.cells zero16 24)) := (Below.refl _ _).alloc (Nat.le_refl _) _
  have bw : Below w.heap.size w w1 := ho.below _ (Nat.le_refl _) _ xz
  have HD := Lib.hid hd
  clear hd ho xz
  go_loopw [2] (fun i wr => ∃ j : Nat, j ≤ 40 ∧ i = .int .i64 j ∧ Hid (DB wr w.heap.size kl) ∧ Below w.heap.size w wr) (fun i _ => 40 - (intOf i).toNat)
  case atStart => exact ⟨0, by omega, rfl, HD, bw⟩
  case round =>
    clear HD bw
    obtain ⟨j, hj, rfl, hB, bwr⟩ := hrel
    by_cases hlt : j < 40
    · obtain ⟨Zj, hZj⟩ : ∃ Z : List UInt8, Z = List.replicate j 0 := ⟨_, rfl⟩
      have hZl : Zj.length = j := by rw [hZj]; simp
      obtain ⟨S, hS⟩ : ∃ S, S = sealL kl (j : Int) Zj Zj := ⟨_, rfl⟩
      obtain ⟨ls, hls⟩ : ∃ x, x = j + 8 := ⟨_, rfl⟩
      have HSl := Lib.hid (show S.length = ls by rw [hS, sealL_len, hls, hZl])
      have hls0 : 0 < ls := by omega
      have hlsb : ls ≤ 48 := by omega
      have HZj := Lib.hid hZj
      have HZl := Lib.hid hZl
      have SJ : Hid (IntKind.u64.wrap (j : Int) = j) := Lib.hid (by unfold IntKind.wrap; simp [IntKind.bits, IntKind.signed]; omega)
      have SJ1 : Hid (IntKind.u64.wrap ((j : Int) + 1) = (j : Int) + 1) := Lib.hid (by unfold IntKind.wrap; simp [IntKind.bits, IntKind.signed]; omega)
      have SO := Lib.hid (show ∀ (W : World) (p : Pt), p.l = Zj → p.In W W.heap.size → Calls Try.prog 43 #[digV kl, .int .u64 (j : Int), p.V, p.V] W (OwnPost S W) from fun W p h1 i1 => by
        have h := seal_own kl HK.out (j : Int) (by omega) (by omega) p p W i1 i1 (by rw [h1, hZl]; omega) (by rw [h1, hZl]; omega)
        rw [h1, ← hS] at h
        exact h)
      have CR := Lib.hid (show ∀ (W : World) (p q : Pt), p.l = Zj → q.l = Zj → p.In W W.heap.size → q.In W W.heap.size → Calls Try.prog 44 #[digV kl, .int .u64 (j : Int), p.V, q.V] W (PtPost S W) from fun W p q h1 h2 i1 i2 => by
        have h := rseal_any kl HK.out (j : Int) (by omega) (by omega) p q W i1 i2 (by rw [h1, hZl]; omega) (by rw [h2, hZl]; omega)
        rw [h1, h2, ← hS] at h
        exact h)
      have O1 := Lib.hid (show ∀ (W : World) (p q : Pt), p.l = Zj → q.l = S → p.In W W.heap.size → q.In W W.heap.size → Calls Try.prog 45 #[digV kl, .int .u64 (j : Int), p.V, q.V] W fun e w' => e = .returned (.bool true) ∧ Below W.heap.size W w' from fun W p q _ _ i1 i2 => lopen_any kl HK.out (j : Int) (by omega) (by omega) p q W i1 i2)
      have O2 := Lib.hid (show ∀ (W : World) (p q : Pt), p.l = Zj → q.l = S → p.In W W.heap.size → q.In W W.heap.size → Calls Try.prog 45 #[digV kl, .int .u64 ((j : Int) + 1), p.V, q.V] W fun e w' => e = .returned (.bool true) ∧ Below W.heap.size W w' from fun W p q _ _ i1 i2 => lopen_any kl HK.out ((j : Int) + 1) (by omega) (by omega) p q W i1 i2)
      have OA := Lib.hid (show ∀ (W : World) (p q : Pt), p.In W W.heap.size → q.In W W.heap.size → Calls Try.prog 45 #[digV kl, .int .u64 (j : Int), p.V, q.V] W fun e w' => e = .returned (.bool true) ∧ Below W.heap.size W w' from fun W p q i1 i2 => lopen_any kl HK.out (j : Int) (by omega) (by omega) p q W i1 i2)
      clear hZj hZl hS hls
      go_wp2_with (first
        | ((with_reducible refine at_any ?_ ?_); (focus go_simp); (refine fun K hK => wp_mk _ _ rfl j rfl rfl (by omega) (fun w2 o2 x2 => hK _ _ ?_)))
        | ((with_reducible refine at_any ?_ ?_); (focus go_simp); (refine fun K hK => wp_ld _ _ kl rfl rfl (hB.out.ext x2) (hK _ _ ?_))))
      obtain ⟨pz, hpz, hzl, hzi⟩ := mk8 _ _ _ o2
      rw [← HZj.out] at hzl
      have hB2 := Lib.hid (hB.out.ext x2)
      have bw2 : Below w.heap.size w w2 := bwr.trans (x2.mono bwr.size)
      have HPZ := Lib.hid hpz
      have SC := SO.out w2 pz hzl hzi
      rw [← HPZ.out] at SC
      have SC := Lib.hid SC
      have HZL := Lib.hid hzl
      have HZI := Lib.hid hzi
      clear hB bwr o2 x2 hpz hzl hzi SO
      refine SC.out.mono ?_
      rintro e w3 ⟨v, rfl, own, x3⟩
      obtain ⟨gs, cs, rfl, hg1, hg2, hg3⟩ := own_slice own (by rw [HSl.out]; exact hls0)
      rw [HSl.out] at own hg3 ⊢
      have hsi := own_ptN own HSl.out
      have x23 : Ex w2 w3 := x3
      have HA := Lib.hid (hB2.out.ext x3)
      have hzl := HZL.out
      have hzi := HZI.out.ext x3
      have bw3 : Below w.heap.size w w3 := bw2.trans (x3.mono bw2.size)
      have bz3 := bw3.size
      obtain ⟨ps, hps⟩ : ∃ p : Pt, p = ⟨some ⟨gs, 0, none⟩, cs, S⟩ := ⟨_, rfl⟩
      have hsl : ps.l = S := by rw [hps]
      have hsv : ps.V = .slice (some ⟨gs, 0, none⟩) ls cs := by rw [hps]; unfold Pt.V; simp only [HSl.out]
      rw [← hps] at hsi
      have HSV := Lib.hid hsv
      have OW := Lib.hid own
      rw [HPZ.out, ← hsv]
      clear hps hsv own SC x3
      go_wp2_with fail
      generalize w3 = wr at *
      obtain ⟨T, hT⟩ : ∃ T : List As, T = [.pt S, .is (.string (strL S)), .is (digV kl), .is (.int .i64 (j : Int)), .is (.int .u64 (j : Int)), .pt Zj, .pt Zj, .pt S, .is (.string (strL S)), .is (.bool false), .is (.bool false), .is (digV kl), .is (.int .i64 (j : Int)), .is (.int .u64 (j : Int)), .pt Zj, .pt S, .is (.bool true), .is (.bool false), .is (.bool false), .is (.bool false), .is (digV kl), .is (.int .i64 (j : Int)), .is (.int .u64 (j : Int)), .is (.int .u64 ((j : Int) + 1)), .pt Zj, .pt S, .is (.bool true), .is (.bool false)] := ⟨_, rfl⟩
      refine wp_region_flow 28 (tabPhi T) (by kernel_rfl) rfl (by kernel_rfl) (by kernel_rfl) (by kernel_rfl) (tabPhi_stable T) (fitB_spec (by kernel_rfl)) ?_ ?_
      · intro i o hi ho
        have hi' : i = 0 ∨ i = 1 ∨ i = 2 ∨ i = 3 ∨ i = 4 ∨ i = 5 ∨ i = 6 ∨ i = 7 ∨ i = 8 ∨ i = 9 ∨ i = 10 ∨ i = 11 ∨ i = 12 ∨ i = 13 ∨ i = 14 ∨ i = 15 ∨ i = 16 ∨ i = 17 ∨ i = 18 ∨ i = 19 ∨ i = 20 ∨ i = 21 ∨ i = 22 ∨ i = 23 ∨ i = 24 ∨ i = 25 ∨ i = 26 ∨ i = 27 := by omega
        rcases hi' with rfl | rfl | rfl | rfl | rfl | rfl | rfl | rfl | rfl | rfl | rfl | rfl | rfl | rfl | rfl | rfl | rfl | rfl | rfl | rfl | rfl | rfl | rfl | rfl | rfl | rfl | rfl | rfl
        all_goals (simp only [List.getElem?_toArray, List.getElem?_cons_zero, List.getElem?_cons_succ, Option.some.injEq] at ho; subst ho; intro a w2 hx hsz hdep hout)
        · rw [if_pos (by rfl)]
          intro K hK
          have f := hout 4 (outB_spec (by kernel_rfl))
          exact wp_mv _ rfl (hK _ _ (Ex.refl _) (by rw [hT]; exact ⟨ps, f, hsl, hsi.ext (Ex.trans (show Ex wr wr.drew from (Below.refl _ _).drew) hx)⟩))
        · rw [if_pos (by rfl)]
          intro K hK
          obtain ⟨v, hv, kv⟩ := hdep ⟨0, .data⟩ (by simp) rfl _ rfl
          have qv := kv _ rfl
          rw [hT] at hv
          obtain ⟨pv, rfl, lv, iv⟩ := hv
          have cv := pt_conv pv w2 iv
          rw [lv] at cv
          have q : a.tmps[19]?.getD undef = .slice pv.ad (S).length pv.cap := by rw [← Array.getD_eq_getD_getElem?, qv]; unfold Pt.V; rw [lv]
          generalize (S).length = nn at cv q
          clear hsz hdep hout qv kv lv
          go_simp
          exact hK _ _ (Ex.refl _) (by rw [hT]; rfl)
        · rw [if_pos (by rfl)]
          intro K hK
          have f := hout 1 (outB_spec (by kernel_rfl))
          exact wp_ld _ w.heap.size kl rfl f (HA.out.ext (Ex.trans (show Ex wr wr.drew from (Below.refl _ _).drew) hx)) (hK _ _ (Ex.refl _) (by rw [hT]; rfl))
        · rw [if_pos (by rfl)]
          intro K hK
          have f := hout 2 (outB_spec (by kernel_rfl))
          exact wp_mv _ rfl (hK _ _ (Ex.refl _) (by rw [hT]; exact f))
        · rw [if_pos (by rfl)]
          intro K hK
          obtain ⟨v, hv, kv⟩ := hdep ⟨3, .data⟩ (by simp) rfl _ rfl
          have qv := kv _ rfl
          rw [hT] at hv
          obtain rfl : v = .int .i64 (j : Int) := hv
          clear hsz hdep hout kv
          go_simp
          exact hK _ _ (Ex.refl _) (by rw [hT]; first | rfl | (show Value.int .u64 (IntKind.u64.wrap (j : Int)) = .int .u64 (j : Int); rw [SJ.out]))
        · rw [if_pos (by rfl)]
          intro K hK
          have f := hout 3 (outB_spec (by kernel_rfl))
          exact wp_mv _ rfl (hK _ _ (Ex.refl _) (by rw [hT]; exact ⟨pz, f, hzl, hzi.ext (Ex.trans (show Ex wr wr.drew from (Below.refl _ _).drew) hx)⟩))
        · rw [if_pos (by rfl)]
          intro K hK
          have f := hout 3 (outB_spec (by kernel_rfl))
          exact wp_mv _ rfl (hK _ _ (Ex.refl _) (by rw [hT]; exact ⟨pz, f, hzl, hzi.ext (Ex.trans (show Ex wr wr.drew from (Below.refl _ _).drew) hx)⟩))
        · rw [if_pos (by rfl)]
          intro K hK
          obtain ⟨v, hv, kv⟩ := hdep ⟨2, .data⟩ (by simp) rfl _ rfl
          have qv := kv _ rfl
          rw [hT] at hv
          obtain rfl : v = digV kl := hv
          obtain ⟨u, hu, ku⟩ := hdep ⟨4, .data⟩ (by simp) rfl _ rfl
          have qu := ku _ rfl
          rw [hT] at hu
          obtain rfl : u = .int .u64 (j : Int) := hu
          obtain ⟨x, hx, kx⟩ := hdep ⟨5, .data⟩ (by simp) rfl _ rfl
          have qx := kx _ rfl
          rw [hT] at hx
          obtain ⟨px, rfl, lx, ix⟩ := hx
          obtain ⟨y, hy, ky⟩ := hdep ⟨6, .data⟩ (by simp) rfl _ rfl
          have qy := ky _ rfl
          rw [hT] at hy
          obtain ⟨py, rfl, ly, iy⟩ := hy
          go_simp
          refine (CR.out w2 _ _ lx ly ix iy).mono ?_
          rintro e w3 ⟨p, rfl, hl, hin, hex⟩
          exact hK _ _ hex (by rw [hT]; exact ⟨p, rfl, hl, hin⟩)
        · rw [if_pos (by rfl)]
          intro K hK
          obtain ⟨v, hv, kv⟩ := hdep ⟨7, .data⟩ (by simp) rfl _ rfl
          have qv := kv _ rfl
          rw [hT] at hv
          obtain ⟨pv, rfl, lv, iv⟩ := hv
          have cv := pt_conv pv w2 iv
          rw [lv] at cv
          have q : a.tmps[26]?.getD undef = .slice pv.ad (S).length pv.cap := by rw [← Array.getD_eq_getD_getElem?, qv]; unfold Pt.V; rw [lv]
          generalize (S).length = nn at cv q
          clear hsz hdep hout qv kv lv
          go_simp
          exact hK _ _ (Ex.refl _) (by rw [hT]; rfl)
        · rw [if_pos (by rfl)]
          intro K hK
          obtain ⟨v, hv, kv⟩ := hdep ⟨1, .data⟩ (by simp) rfl _ rfl
          have qv := kv _ rfl
          rw [hT] at hv
          obtain rfl : v = .string (strL S) := hv
          obtain ⟨u, hu, ku⟩ := hdep ⟨8, .data⟩ (by simp) rfl _ rfl
          have qu := ku _ rfl
          rw [hT] at hu
          obtain rfl : u = .string (strL S) := hu
          clear hsz hdep hout kv ku
          go_simp
          exact hK _ _ (Ex.refl _) (by rw [hT]; rfl)
        · rw [if_pos (by rfl)]
          intro K hK
          obtain ⟨v, hv, kv⟩ := hdep ⟨9, .data⟩ (by simp) rfl _ rfl
          have qv := kv _ rfl
          rw [hT] at hv
          obtain rfl : v = .bool false := hv
          exact wp_mv _ rfl (hK _ _ (Ex.refl _) (by rw [hT]; exact qv))
        · obtain ⟨vg, hvg, kg⟩ := hdep ⟨10, .guard⟩ (by simp) rfl _ rfl
          rw [hT] at hvg
          obtain rfl : vg = .bool false := hvg
          rw [if_pos (wanted_of rfl rfl rfl (kg _ rfl))]
          intro K hK
          have f := hout 1 (outB_spec (by kernel_rfl))
          exact wp_ld _ w.heap.size kl rfl f (HA.out.ext (Ex.trans (show Ex wr wr.drew from (Below.refl _ _).drew) hx)) (hK _ _ (Ex.refl _) (by rw [hT]; rfl))
        · obtain ⟨vg, hvg, kg⟩ := hdep ⟨10, .guard⟩ (by simp) rfl _ rfl
          rw [hT] at hvg
          obtain rfl : vg = .bool false := hvg
          rw [if_pos (wanted_of rfl rfl rfl (kg _ rfl))]
          intro K hK
          have f := hout 2 (outB_spec (by kernel_rfl))
          exact wp_mv _ rfl (hK _ _ (Ex.refl _) (by rw [hT]; exact f))
        · obtain ⟨vg, hvg, kg⟩ := hdep ⟨10, .guard⟩ (by simp) rfl _ rfl
          rw [hT] at hvg
          obtain rfl : vg = .bool false := hvg
          rw [if_pos (wanted_of rfl rfl rfl (kg _ rfl))]
          intro K hK
          obtain ⟨v, hv, kv⟩ := hdep ⟨12, .data⟩ (by simp) rfl _ rfl
          have qv := kv _ rfl
          rw [hT] at hv
          obtain rfl : v = .int .i64 (j : Int) := hv
          clear hsz hdep hout kv kg
          go_simp
          exact hK _ _ (Ex.refl _) (by rw [hT]; first | rfl | (show Value.int .u64 (IntKind.u64.wrap (j : Int)) = .int .u64 (j : Int); rw [SJ.out]))
        · obtain ⟨vg, hvg, kg⟩ := hdep ⟨10, .guard⟩ (by simp) rfl _ rfl
          rw [hT] at hvg
          obtain rfl : vg = .bool false := hvg
          rw [if_pos (wanted_of rfl rfl rfl (kg _ rfl))]
          intro K hK
          have f := hout 3 (outB_spec (by kernel_rfl))
          exact wp_mv _ rfl (hK _ _ (Ex.refl _) (by rw [hT]; exact ⟨pz, f, hzl, hzi.ext (Ex.trans (show Ex wr wr.drew from (Below.refl _ _).drew) hx)⟩))
        · obtain ⟨vg, hvg, kg⟩ := hdep ⟨10, .guard⟩ (by simp) rfl _ rfl
          rw [hT] at hvg
          obtain rfl : vg = .bool false := hvg
          rw [if_pos (wanted_of rfl rfl rfl (kg _ rfl))]
          intro K hK
          have f := hout 4 (outB_spec (by kernel_rfl))
          exact wp_mv _ rfl (hK _ _ (Ex.refl _) (by rw [hT]; exact ⟨ps, f, hsl, hsi.ext (Ex.trans (show Ex wr wr.drew from (Below.refl _ _).drew) hx)⟩))
        · obtain ⟨vg, hvg, kg⟩ := hdep ⟨10, .guard⟩ (by simp) rfl _ rfl
          rw [hT] at hvg
          obtain rfl : vg = .bool false := hvg
          rw [if_pos (wanted_of rfl rfl rfl (kg _ rfl))]
          intro K hK
          obtain ⟨v, hv, kv⟩ := hdep ⟨11, .data⟩ (by simp) rfl _ rfl
          have qv := kv _ rfl
          rw [hT] at hv
          obtain rfl : v = digV kl := hv
          obtain ⟨u, hu, ku⟩ := hdep ⟨13, .data⟩ (by simp) rfl _ rfl
          have qu := ku _ rfl
          rw [hT] at hu
          obtain rfl : u = .int .u64 (j : Int) := hu
          obtain ⟨x, hx, kx⟩ := hdep ⟨14, .data⟩ (by simp) rfl _ rfl
          have qx := kx _ rfl
          rw [hT] at hx
          obtain ⟨px, rfl, lx, ix⟩ := hx
          obtain ⟨y, hy, ky⟩ := hdep ⟨15, .data⟩ (by simp) rfl _ rfl
          have qy := ky _ rfl
          rw [hT] at hy
          obtain ⟨py, rfl, ly, iy⟩ := hy
          go_simp
          refine (O1.out w2 _ _ lx ly ix iy).mono ?_
          rintro e w3 ⟨rfl, hex⟩
          exact hK _ _ hex (by rw [hT]; rfl)
        · obtain ⟨vg, hvg, kg⟩ := hdep ⟨10, .guard⟩ (by simp) rfl _ rfl
          rw [hT] at hvg
          obtain rfl : vg = .bool false := hvg
          rw [if_pos (wanted_of rfl rfl rfl (kg _ rfl))]
          intro K hK
          obtain ⟨v, hv, kv⟩ := hdep ⟨16, .data⟩ (by simp) rfl _ rfl
          have qv := kv _ rfl
          rw [hT] at hv
          obtain rfl : v = .bool true := hv
          clear hsz hdep hout kg kv
          go_simp
          exact hK _ _ (Ex.refl _) (by rw [hT]; rfl)
        · rw [if_pos (by rfl)]
          intro K hK
          obtain ⟨v, hv, kv⟩ := hdep ⟨10, .data⟩ (by simp) rfl _ rfl
          have qv := kv _ rfl
          rw [hT] at hv
          obtain rfl : v = .bool false := hv
          obtain ⟨u, hu, ku⟩ := hdep ⟨17, .data⟩ (by simp) rfl _ rfl
          have qu := ku _ rfl
          rw [hT] at hu
          obtain rfl : u = .bool false := hu
          clear hsz hdep hout
          go_simp
          exact hK _ _ (Ex.refl _) (by rw [hT]; rfl)
        · rw [if_pos (by rfl)]
          intro K hK
          obtain ⟨v, hv, kv⟩ := hdep ⟨18, .data⟩ (by simp) rfl _ rfl
          have qv := kv _ rfl
          rw [hT] at hv
          obtain rfl : v = .bool false := hv
          exact wp_mv _ rfl (hK _ _ (Ex.refl _) (by rw [hT]; exact qv))
        · obtain ⟨vg, hvg, kg⟩ := hdep ⟨19, .guard⟩ (by simp) rfl _ rfl
          rw [hT] at hvg
          obtain rfl : vg = .bool false := hvg
          rw [if_pos (wanted_of rfl rfl rfl (kg _ rfl))]
          intro K hK
          have f := hout 1 (outB_spec (by kernel_rfl))
          exact wp_ld _ w.heap.size kl rfl f (HA.out.ext (Ex.trans (show Ex wr wr.drew from (Below.refl _ _).drew) hx)) (hK _ _ (Ex.refl _) (by rw [hT]; rfl))
        · obtain ⟨vg, hvg, kg⟩ := hdep ⟨19, .guard⟩ (by simp) rfl _ rfl
          rw [hT] at hvg
          obtain rfl : vg = .bool false := hvg
          rw [if_pos (wanted_of rfl rfl rfl (kg _ rfl))]
          intro K hK
          have f := hout 2 (outB_spec (by kernel_rfl))
          exact wp_mv _ rfl (hK _ _ (Ex.refl _) (by rw [hT]; exact f))
        · obtain ⟨vg, hvg, kg⟩ := hdep ⟨19, .guard⟩ (by simp) rfl _ rfl
          rw [hT] at hvg
          obtain rfl : vg = .bool false := hvg
          rw [if_pos (wanted_of rfl rfl rfl (kg _ rfl))]
          intro K hK
          obtain ⟨v, hv, kv⟩ := hdep ⟨21, .data⟩ (by simp) rfl _ rfl
          have qv := kv _ rfl
          rw [hT] at hv
          obtain rfl : v = .int .i64 (j : Int) := hv
          clear hsz hdep hout kv kg
          go_simp
          exact hK _ _ (Ex.refl _) (by rw [hT]; first | rfl | (show Value.int .u64 (IntKind.u64.wrap (j : Int)) = .int .u64 (j : Int); rw [SJ.out]))
        · obtain ⟨vg, hvg, kg⟩ := hdep ⟨19, .guard⟩ (by simp) rfl _ rfl
          rw [hT] at hvg
          obtain rfl : vg = .bool false := hvg
          rw [if_pos (wanted_of rfl rfl rfl (kg _ rfl))]
          intro K hK
          obtain ⟨v, hv, kv⟩ := hdep ⟨22, .data⟩ (by simp) rfl _ rfl
          have qv := kv _ rfl
          rw [hT] at hv
          obtain rfl : v = .int .u64 (j : Int) := hv
          clear hsz hdep hout kv kg
          go_simp
          exact hK _ _ (Ex.refl _) (by rw [hT]; first | rfl | (show Value.int .u64 (IntKind.u64.wrap ((j : Int) + 1)) = .int .u64 ((j : Int) + 1); rw [SJ1.out]))
        · obtain ⟨vg, hvg, kg⟩ := hdep ⟨19, .guard⟩ (by simp) rfl _ rfl
          rw [hT] at hvg
          obtain rfl : vg = .bool false := hvg
          rw [if_pos (wanted_of rfl rfl rfl (kg _ rfl))]
          intro K hK
          have f := hout 3 (outB_spec (by kernel_rfl))
          exact wp_mv _ rfl (hK _ _ (Ex.refl _) (by rw [hT]; exact ⟨pz, f, hzl, hzi.ext (Ex.trans (show Ex wr wr.drew from (Below.refl _ _).drew) hx)⟩))
        · obtain ⟨vg, hvg, kg⟩ := hdep ⟨19, .guard⟩ (by simp) rfl _ rfl
          rw [hT] at hvg
          obtain rfl : vg = .bool false := hvg
          rw [if_pos (wanted_of rfl rfl rfl (kg _ rfl))]
          intro K hK
          have f := hout 4 (outB_spec (by kernel_rfl))
          exact wp_mv _ rfl (hK _ _ (Ex.refl _) (by rw [hT]; exact ⟨ps, f, hsl, hsi.ext (Ex.trans (show Ex wr wr.drew from (Below.refl _ _).drew) hx)⟩))
        · obtain ⟨vg, hvg, kg⟩ := hdep ⟨19, .guard⟩ (by simp) rfl _ rfl
          rw [hT] at hvg
          obtain rfl : vg = .bool false := hvg
          rw [if_pos (wanted_of rfl rfl rfl (kg _ rfl))]
          intro K hK
          obtain ⟨v, hv, kv⟩ := hdep ⟨20, .data⟩ (by simp) rfl _ rfl
          have qv := kv _ rfl
          rw [hT] at hv
          obtain rfl : v = digV kl := hv
          obtain ⟨u, hu, ku⟩ := hdep ⟨23, .data⟩ (by simp) rfl _ rfl
          have qu := ku _ rfl
          rw [hT] at hu
          obtain rfl : u = .int .u64 ((j : Int) + 1) := hu
          obtain ⟨x, hx, kx⟩ := hdep ⟨24, .data⟩ (by simp) rfl _ rfl
          have qx := kx _ rfl
          rw [hT] at hx
          obtain ⟨px, rfl, lx, ix⟩ := hx
          obtain ⟨y, hy, ky⟩ := hdep ⟨25, .data⟩ (by simp) rfl _ rfl
          have qy := ky _ rfl
          rw [hT] at hy
          obtain ⟨py, rfl, ly, iy⟩ := hy
          go_simp
          refine (O2.out w2 _ _ lx ly ix iy).mono ?_
          rintro e w3 ⟨rfl, hex⟩
          exact hK _ _ hex (by rw [hT]; rfl)
        · obtain ⟨vg, hvg, kg⟩ := hdep ⟨19, .guard⟩ (by simp) rfl _ rfl
          rw [hT] at hvg
          obtain rfl : vg = .bool false := hvg
          rw [if_pos (wanted_of rfl rfl rfl (kg _ rfl))]
          intro K hK
          obtain ⟨v, hv, kv⟩ := hdep ⟨26, .data⟩ (by simp) rfl _ rfl
          have qv := kv _ rfl
          rw [hT] at hv
          obtain rfl : v = .bool true := hv
          clear hsz hdep hout kg kv
          go_simp
          exact hK _ _ (Ex.refl _) (by rw [hT]; rfl)
      · intro a w2b hx hdef hsz hdone hout
        obtain ⟨v, hv, kv⟩ := hdone 19 _ (by omega) rfl
        have qv := kv _ rfl
        rw [hT] at hv
        obtain rfl : v = .bool false := hv
        obtain ⟨u, hu, ku⟩ := hdone 27 _ (by omega) rfl
        have qu := ku _ rfl
        rw [hT] at hu
        obtain rfl : u = .bool false := hu
        clear hdone kv ku hT
        have hA := arr_range a.tmps 93 hsz
        change a.tmps = #[a.tmps[0]?.getD undef, a.tmps[1]?.getD undef, a.tmps[2]?.getD undef, a.tmps[3]?.getD undef, a.tmps[4]?.getD undef, a.tmps[5]?.getD undef, a.tmps[6]?.getD undef, a.tmps[7]?.getD undef, a.tmps[8]?.getD undef, a.tmps[9]?.getD undef, a.tmps[10]?.getD undef, a.tmps[11]?.getD undef, a.tmps[12]?.getD undef, a.tmps[13]?.getD undef, a.tmps[14]?.getD undef, a.tmps[15]?.getD undef, a.tmps[16]?.getD undef, a.tmps[17]?.getD undef, a.tmps[18]?.getD undef, a.tmps[19]?.getD undef, a.tmps[20]?.getD undef, a.tmps[21]?.getD undef, a.tmps[22]?.getD undef, a.tmps[23]?.getD undef, a.tmps[24]?.getD undef, a.tmps[25]?.getD undef, a.tmps[26]?.getD undef, a.tmps[27]?.getD undef, a.tmps[28]?.getD undef, a.tmps[29]?.getD undef, a.tmps[30]?.getD undef, a.tmps[31]?.getD undef, a.tmps[32]?.getD undef, a.tmps[33]?.getD undef, a.tmps[34]?.getD undef, a.tmps[35]?.getD undef, a.tmps[36]?.getD undef, a.tmps[37]?.getD undef, a.tmps[38]?.getD undef, a.tmps[39]?.getD undef, a.tmps[40]?.getD undef, a.tmps[41]?.getD undef, a.tmps[42]?.getD undef, a.tmps[43]?.getD undef, a.tmps[44]?.getD undef, a.tmps[45]?.getD undef, a.tmps[46]?.getD undef, a.tmps[47]?.getD undef, a.tmps[48]?.getD undef, a.tmps[49]?.getD undef, a.tmps[50]?.getD undef, a.tmps[51]?.getD undef, a.tmps[52]?.getD undef, a.tmps[53]?.getD undef, a.tmps[54]?.getD undef, a.tmps[55]?.getD undef, a.tmps[56]?.getD undef, a.tmps[57]?.getD undef, a.tmps[58]?.getD undef, a.tmps[59]?.getD undef, a.tmps[60]?.getD undef, a.tmps[61]?.getD undef, a.tmps[62]?.getD undef, a.tmps[63]?.getD undef, a.tmps[64]?.getD undef, a.tmps[65]?.getD undef, a.tmps[66]?.getD undef, a.tmps[67]?.getD undef, a.tmps[68]?.getD undef, a.tmps[69]?.getD undef, a.tmps[70]?.getD undef, a.tmps[71]?.getD undef, a.tmps[72]?.getD undef, a.tmps[73]?.getD undef, a.tmps[74]?.getD undef, a.tmps[75]?.getD undef, a.tmps[76]?.getD undef, a.tmps[77]?.getD undef, a.tmps[78]?.getD undef, a.tmps[79]?.getD undef, a.tmps[80]?.getD undef, a.tmps[81]?.getD undef, a.tmps[82]?.getD undef, a.tmps[83]?.getD undef, a.tmps[84]?.getD undef, a.tmps[85]?.getD undef, a.tmps[86]?.getD undef, a.tmps[87]?.getD undef, a.tmps[88]?.getD undef, a.tmps[89]?.getD undef, a.tmps[90]?.getD undef, a.tmps[91]?.getD undef, a.tmps[92]?.getD undef] at hA
        have e0 := hout 0 (fun i o _ h => outB_spec (by kernel_rfl) i o h)
        have e1 := hout 1 (fun i o _ h => outB_spec (by kernel_rfl) i o h)
        have e2 := hout 2 (fun i o _ h => outB_spec (by kernel_rfl) i o h)
        have e3 := hout 3 (fun i o _ h => outB_spec (by kernel_rfl) i o h)
        have e4 := hout 4 (fun i o _ h => outB_spec (by kernel_rfl) i o h)
        have e5 := hout 5 (fun i o _ h => outB_spec (by kernel_rfl) i o h)
        have e6 := hout 6 (fun i o _ h => outB_spec (by kernel_rfl) i o h)
        have e7 := hout 7 (fun i o _ h => outB_spec (by kernel_rfl) i o h)
        have e8 := hout 8 (fun i o _ h => outB_spec (by kernel_rfl) i o h)
        have e9 := hout 9 (fun i o _ h => outB_spec (by kernel_rfl) i o h)
        have e10 := hout 10 (fun i o _ h => outB_spec (by kernel_rfl) i o h)
        have e11 := hout 11 (fun i o _ h => outB_spec (by kernel_rfl) i o h)
        have e12 := hout 12 (fun i o _ h => outB_spec (by kernel_rfl) i o h)
        have e13 := hout 13 (fun i o _ h => outB_spec (by kernel_rfl) i o h)
        have e14 := hout 14 (fun i o _ h => outB_spec (by kernel_rfl) i o h)
        have e15 := hout 15 (fun i o _ h => outB_spec (by kernel_rfl) i o h)
        have e16 := hout 16 (fun i o _ h => outB_spec (by kernel_rfl) i o h)
        have e17 := hout 17 (fun i o _ h => outB_spec (by kernel_rfl) i o h)
        have e18 := hout 18 (fun i o _ h => outB_spec (by kernel_rfl) i o h)
        have e48 := hout 48 (fun i o _ h => outB_spec (by kernel_rfl) i o h)
        have e49 := hout 49 (fun i o _ h => outB_spec (by kernel_rfl) i o h)
        have e50 := hout 50 (fun i o _ h => outB_spec (by kernel_rfl) i o h)
        have e51 := hout 51 (fun i o _ h => outB_spec (by kernel_rfl) i o h)
        have e52 := hout 52 (fun i o _ h => outB_spec (by kernel_rfl) i o h)
        have e53 := hout 53 (fun i o _ h => outB_spec (by kernel_rfl) i o h)
        have e54 := hout 54 (fun i o _ h => outB_spec (by kernel_rfl) i o h)
        have e55 := hout 55 (fun i o _ h => outB_spec (by kernel_rfl) i o h)
        have e56 := hout 56 (fun i o _ h => outB_spec (by kernel_rfl) i o h)
        have e57 := hout 57 (fun i o _ h => outB_spec (by kernel_rfl) i o h)
        have e58 := hout 58 (fun i o _ h => outB_spec (by kernel_rfl) i o h)
        have e59 := hout 59 (fun i o _ h => outB_spec (by kernel_rfl) i o h)
        have e60 := hout 60 (fun i o _ h => outB_spec (by kernel_rfl) i o h)
        have e61 := hout 61 (fun i o _ h => outB_spec (by kernel_rfl) i o h)
        have e62 := hout 62 (fun i o _ h => outB_spec (by kernel_rfl) i o h)
        have e63 := hout 63 (fun i o _ h => outB_spec (by kernel_rfl) i o h)
        have e64 := hout 64 (fun i o _ h => outB_spec (by kernel_rfl) i o h)
        have e65 := hout 65 (fun i o _ h => outB_spec (by kernel_rfl) i o h)
        have e66 := hout 66 (fun i o _ h => outB_spec (by kernel_rfl) i o h)
        have e67 := hout 67 (fun i o _ h => outB_spec (by kernel_rfl) i o h)
        have e68 := hout 68 (fun i o _ h => outB_spec (by kernel_rfl) i o h)
        have e69 := hout 69 (fun i o _ h => outB_spec (by kernel_rfl) i o h)
        have e70 := hout 70 (fun i o _ h => outB_spec (by kernel_rfl) i o h)
        have e71 := hout 71 (fun i o _ h => outB_spec (by kernel_rfl) i o h)
        have e72 := hout 72 (fun i o _ h => outB_spec (by kernel_rfl) i o h)
        have e73 := hout 73 (fun i o _ h => outB_spec (by kernel_rfl) i o h)
        have e74 := hout 74 (fun i o _ h => outB_spec (by kernel_rfl) i o h)
        have e75 := hout 75 (fun i o _ h => outB_spec (by kernel_rfl) i o h)
        have e76 := hout 76 (fun i o _ h => outB_spec (by kernel_rfl) i o h)
        have e77 := hout 77 (fun i o _ h => outB_spec (by kernel_rfl) i o h)
        have e78 := hout 78 (fun i o _ h => outB_spec (by kernel_rfl) i o h)
        have e79 := hout 79 (fun i o _ h => outB_spec (by kernel_rfl) i o h)
        have e80 := hout 80 (fun i o _ h => outB_spec (by kernel_rfl) i o h)
        have e81 := hout 81 (fun i o _ h => outB_spec (by kernel_rfl) i o h)
        have e82 := hout 82 (fun i o _ h => outB_spec (by kernel_rfl) i o h)
        have e83 := hout 83 (fun i o _ h => outB_spec (by kernel_rfl) i o h)
        have e84 := hout 84 (fun i o _ h => outB_spec (by kernel_rfl) i o h)
        have e85 := hout 85 (fun i o _ h => outB_spec (by kernel_rfl) i o h)
        have e86 := hout 86 (fun i o _ h => outB_spec (by kernel_rfl) i o h)
        have e87 := hout 87 (fun i o _ h => outB_spec (by kernel_rfl) i o h)
        have e88 := hout 88 (fun i o _ h => outB_spec (by kernel_rfl) i o h)
        have e89 := hout 89 (fun i o _ h => outB_spec (by kernel_rfl) i o h)
        have e90 := hout 90 (fun i o _ h => outB_spec (by kernel_rfl) i o h)
        have e91 := hout 91 (fun i o _ h => outB_spec (by kernel_rfl) i o h)
        have e92 := hout 92 (fun i o _ h => outB_spec (by kernel_rfl) i o h)
        simp only [Array.getD_eq_getD_getElem?, List.getElem?_toArray, List.getElem?_cons_zero, List.getElem?_cons_succ, Option.getD_some] at e0 e1 e2 e3 e4 e5 e6 e7 e8 e9 e10 e11 e12 e13 e14 e15 e16 e17 e18 e48 e49 e50 e51 e52 e53 e54 e55 e56 e57 e58 e59 e60 e61 e62 e63 e64 e65 e66 e67 e68 e69 e70 e71 e72 e73 e74 e75 e76 e77 e78 e79 e80 e81 e82 e83 e84 e85 e86 e87 e88 e89 e90 e91 e92
        rw [e0, e1, e2, e3, e4, e5, e6, e7, e8, e9, e10, e11, e12, e13, e14, e15, e16, e17, e18, e48, e49, e50, e51, e52, e53, e54, e55, e56, e57, e58, e59, e60, e61, e62, e63, e64, e65, e66, e67, e68, e69, e70, e71, e72, e73, e74, e75, e76, e77, e78, e79, e80, e81, e82, e83, e84, e85, e86, e87, e88, e89, e90, e91, e92] at hA
        clear e0 e1 e2 e3 e4 e5 e6 e7 e8 e9 e10 e11 e12 e13 e14 e15 e16 e17 e18 e48 e49 e50 e51 e52 e53 e54 e55 e56 e57 e58 e59 e60 e61 e62 e63 e64 e65 e66 e67 e68 e69 e70 e71 e72 e73 e74 e75 e76 e77 e78 e79 e80 e81 e82 e83 e84 e85 e86 e87 e88 e89 e90 e91 e92 hout
        have hds2 : a.defers = [] := hdef
        have ea : a = ⟨a.tmps, a.defers⟩ := rfl
        have s38 : a.tmps[38]?.getD undef = .bool false := by simpa [Array.getD_eq_getD_getElem?] using qv
        have s46 : a.tmps[46]?.getD undef = .bool false := by simpa [Array.getD_eq_getD_getElem?] using qu
        rw [hA, hds2, s38, s46] at ea
        clear hA hds2 s38 qv s46 qu hdef
        generalize a.tmps[19]?.getD undef = y19 at ea
        generalize a.tmps[20]?.getD undef = y20 at ea
        generalize a.tmps[21]?.getD undef = y21 at ea
        generalize a.tmps[22]?.getD undef = y22 at ea
        generalize a.tmps[23]?.getD undef = y23 at ea
        generalize a.tmps[24]?.getD undef = y24 at ea
        generalize a.tmps[25]?.getD undef = y25 at ea
        generalize a.tmps[26]?.getD undef = y26 at ea
        generalize a.tmps[27]?.getD undef = y27 at ea
        generalize a.tmps[28]?.getD undef = y28 at ea
        generalize a.tmps[29]?.getD undef = y29 at ea
        generalize a.tmps[30]?.getD undef = y30 at ea
        generalize a.tmps[31]?.getD undef = y31 at ea
        generalize a.tmps[32]?.getD undef = y32 at ea
        generalize a.tmps[33]?.getD undef = y33 at ea
        generalize a.tmps[34]?.getD undef = y34 at ea
        generalize a.tmps[35]?.getD undef = y35 at ea
        generalize a.tmps[36]?.getD undef = y36 at ea
        generalize a.tmps[37]?.getD undef = y37 at ea
        generalize a.tmps[39]?.getD undef = y39 at ea
        generalize a.tmps[40]?.getD undef = y40 at ea
        generalize a.tmps[41]?.getD undef = y41 at ea
        generalize a.tmps[42]?.getD undef = y42 at ea
        generalize a.tmps[43]?.getD undef = y43 at ea
        generalize a.tmps[44]?.getD undef = y44 at ea
        generalize a.tmps[45]?.getD undef = y45 at ea
        generalize a.tmps[47]?.getD undef = y47 at ea
        clear hsz
        subst ea
        have bx : Below wr.heap.size wr w2b := Below.trans (Below.refl _ _).drew hx
        unfold wpOp
        simp only [List.getElem?_toArray, List.getElem?_cons_zero, List.getElem?_cons_succ]
        rw [if_pos (by rfl)]
        left
        have x24 : Ex w2 w2b := Ex.trans x23 (show Ex wr w2b from bx)
        have OW4 := Lib.hid (own_under OW.out (show Ex wr w2b from bx))
        have bw4 := bw3.trans (bx.mono bz3)
        clear hzi hsi HA bx hx OW bw3 bz3 x23 CR O1 O2
        rw [HSV.out, ← HPZ.out]
        go_simp
        go_wp2_with fail
        go_loopw [5] (fun i wr => ∃ k : Nat, k ≤ ls ∧ i = .int .i64 k ∧ Hid (ownU wr w2.heap.size (.slice (some ⟨gs, 0, none⟩) ls cs) S) ∧ Ex w2 wr) (fun i _ => ls - (intOf i).toNat)
        case atStart => exact ⟨0, by omega, rfl, OW4, x24⟩
        case round =>
          clear OW4 x24 bw4
          obtain ⟨k, hk, rfl, own, xr⟩ := hrel
          by_cases hkl : k < ls
          · obtain ⟨c1, f1⟩ := own_at own.out HSl.out k hkl
            have XV := Lib.hid (show bits .xor .u8 ((S.getD k 0).toNat : Int) 4 = (((S.getD k 0) ^^^ 4 : UInt8).toNat : Int) from xor_val (S.getD k 0) 4)
            obtain ⟨x, hxx⟩ : ∃ x, x = S.getD k 0 := ⟨_, rfl⟩
            rw [← hxx] at c1 XV
            have OP := own_put own.out HSl.out k (x ^^^ 4)
            rw [← XV.out] at OP
            obtain ⟨S2, hS2⟩ : ∃ y, y = S.set k (x ^^^ 4) := ⟨_, rfl⟩
            rw [← hS2] at OP
            have HS2l := Lib.hid (show S2.length = ls by rw [hS2, List.length_set, HSl.out])
            have S2k := Lib.hid (show S2.getD k 0 = x ^^^ 4 by rw [hS2]; have := HSl.out; simp [List.getD, this, hkl])
            have SB := Lib.hid (show S2.set k ((x ^^^ 4) ^^^ 4) = S by
              rw [hS2, List.set_set, UInt8.xor_assoc, UInt8.xor_self, UInt8.xor_zero, hxx]
              have h := HSl.out
              simp [List.getD, h, hkl])
            have x7 : Ex w2 (wr.setCell ⟨gs, k, none⟩ (.int .u8 (bits .xor .u8 (x.toNat : Int) 4))) := xr.setCell (p := ⟨gs, k, none⟩) hg1 _
            have HA7 := Lib.hid (hB2.out.ext x7)
            have PZ7 := HZI.out.ext x7
            have OC := OA.out _ pz ⟨some ⟨gs, 0, none⟩, cs, S2⟩ PZ7 (own_ptN OP HS2l.out)
            have hv2 : (Pt.mk (some ⟨gs, 0, none⟩) cs S2).V = .slice (some ⟨gs, 0, none⟩) ls cs := by unfold Pt.V; simp only [HS2l.out]
            rw [hv2, ← HPZ.out] at OC
            have OC := Lib.hid OC
            have OPH := Lib.hid OP
            clear hxx hS2 OP PZ7 hv2 own
            go_wp2_with ((with_reducible refine at_any ?_ ?_); (focus go_simp); (refine fun K hK => wp_ld _ _ kl rfl rfl (HA7.out) (hK _ _ ?_)))
            refine OC.out.mono ?_
            rintro e w8 ⟨rfl, y8⟩
            have x8 : Ex w2 w8 := Ex.trans x7 y8
            have OW8 := own_under OPH.out y8
            obtain ⟨c2, f2⟩ := own_at OW8 HS2l.out k hkl
            rw [S2k.out] at c2
            have XV2 := Lib.hid (show bits .xor .u8 ((x ^^^ 4 : UInt8).toNat : Int) 4 = (((x ^^^ 4) ^^^ 4 : UInt8).toNat : Int) from xor_val (x ^^^ 4) 4)
            have OP2 := own_put OW8 HS2l.out k ((x ^^^ 4) ^^^ 4)
            rw [← XV2.out, SB.out] at OP2
            obtain ⟨z, hz⟩ : ∃ z, z = x ^^^ 4 := ⟨_, rfl⟩
            rw [← hz] at c2 OP2
            have OW9 := Lib.hid OP2
            clear c1 f1 XV OC OPH HA7 x7 y8 OW8 XV2 OP2 SB S2k HS2l hz
            go_wp2_with fail
            go_roundw
            case rel => exact ⟨k + 1, by omega, by go_num, OW9, x8.setCell (p := ⟨gs, k, none⟩) hg1 _⟩
            case measure => simp [intOf]; omega
          · have hkls : ¬ k < ls := hkl
            go_wp2_with fail
            go_roundw
            case rel => exact ⟨j + 1, by omega, by go_num, Lib.hid (hB2.out.ext xr), bw2.trans (xr.mono bw2.size)⟩
            case measure => simp [intOf]; omega
    · have hj40 : ¬ j < 40 := hlt
      obtain ⟨Z1, hZ1⟩ : ∃ Z : List UInt8, Z = List.replicate 8192 0 := ⟨_, rfl⟩
      obtain ⟨Z2, hZ2⟩ : ∃ Z : List UInt8, Z = List.replicate 8184 0 := ⟨_, rfl⟩
      obtain ⟨Z3, hZ3⟩ : ∃ Z : List UInt8, Z = List.replicate 9000 0 := ⟨_, rfl⟩
      have HZ1 := Lib.hid hZ1.symm
      have HZ2 := Lib.hid hZ2.symm
      have HZ3 := Lib.hid hZ3.symm
      have l1 : Z1.length = 8192 := by rw [hZ1, List.length_replicate]
      have l2 : Z2.length = 8184 := by rw [hZ2, List.length_replicate]
      obtain ⟨S9, hS9⟩ : ∃ S, S = sealL kl 0 [] Z2 := ⟨_, rfl⟩
      have HS9 := Lib.hid (show S9.length = 8192 by rw [hS9, sealL_len, l2])
      have L1 := Lib.hid (show ∀ (W : World) (q : Pt), q.l = Z1 → q.In W W.heap.size → Calls Try.prog 43 #[digV kl, .int .u64 0, .slice none 0 0, q.V] W (PtPost [] W) from fun W q h1 i1 => by
        have h := seal_long kl 0 ⟨none, 0, []⟩ q W (by rw [h1, l1]; omega) (by rw [h1, l1]; omega)
        exact h)
      have L2 := Lib.hid (show ∀ (W : World) (q : Pt), q.l = Z2 → q.In W W.heap.size → Calls Try.prog 43 #[digV kl, .int .u64 0, .slice none 0 0, q.V] W (PtPost S9 W) from fun W q h1 i1 => by
        have h := seal_any kl HK.out 0 (by omega) (by omega) ⟨none, 0, []⟩ q W (nil_inE _ _) i1 (by simp) (by rw [h1, l2]; omega)
        rw [h1, ← hS9] at h
        exact h)
      have L3 := Lib.hid (show ∀ (W : World) (q : Pt), q.l = Z3 → q.In W W.heap.size → Calls Try.prog 45 #[digV kl, .int .u64 0, .slice none 0 0, q.V] W fun e w' => e = .returned (.bool true) ∧ Below W.heap.size W w' from fun W q h1 i1 => by
        have h := lopen_any kl HK.out 0 (by omega) (by omega) ⟨none, 0, []⟩ q W (nil_inE _ _) i1
        exact h)
      have KN := Lib.hid known4_any
      have HA := hB
      clear hB hZ1 hZ2 hZ3 l1 l2 hS9 HV hj
      go_wp2_with fail
      have bzr := bwr.size
      obtain ⟨T, hT⟩ : ∃ T : List As, T = [.is (digV kl), .pt Z1, .pt [], .is (.int .i64 0), .is (.bool true), .is (.bool true), .is (digV kl), .pt Z2, .pt S9, .is (.int .i64 8192), .is (.bool true), .is (.bool true), .is (.bool true), .is (digV kl), .pt Z3, .is (.bool true), .is (.bool true), .is (.bool true), .is (.bool true), .is (.bool true)] := ⟨_, rfl⟩
      refine wp_region_flow 20 (tabPhi T) (by kernel_rfl) rfl (by kernel_rfl) (by kernel_rfl) (by kernel_rfl) (tabPhi_stable T) (fitB_spec (by kernel_rfl)) ?_ ?_
      · intro i o hi ho
        have hi' : i = 0 ∨ i = 1 ∨ i = 2 ∨ i = 3 ∨ i = 4 ∨ i = 5 ∨ i = 6 ∨ i = 7 ∨ i = 8 ∨ i = 9 ∨ i = 10 ∨ i = 11 ∨ i = 12 ∨ i = 13 ∨ i = 14 ∨ i = 15 ∨ i = 16 ∨ i = 17 ∨ i = 18 ∨ i = 19 := by omega
        rcases hi' with rfl | rfl | rfl | rfl | rfl | rfl | rfl | rfl | rfl | rfl | rfl | rfl | rfl | rfl | rfl | rfl | rfl | rfl | rfl | rfl
        all_goals (simp only [List.getElem?_toArray, List.getElem?_cons_zero, List.getElem?_cons_succ, Option.some.injEq] at ho; subst ho; intro a w2 hx hsz hdep hout)
        · rw [if_pos (by rfl)]
          intro K hK
          have f := hout 1 (outB_spec (by kernel_rfl))
          exact wp_ld _ w.heap.size kl rfl f (HA.out.ext (Ex.trans (show Ex wr wr.drew from (Below.refl _ _).drew) hx)) (hK _ _ (Ex.refl _) (by rw [hT]; rfl))
        · rw [if_pos (by rfl)]
          intro K hK
          clear hsz hdep hout
          refine wp_mk _ _ rfl 8192 rfl rfl (by omega) (fun w3 o3 x3 => ?_)
          obtain ⟨p, e, l, i⟩ := mk8 _ _ _ o3
          exact hK _ _ x3 (by rw [hT]; exact ⟨p, e, by rw [l, HZ1.out], i⟩)
        · rw [if_pos (by rfl)]
          intro K hK
          obtain ⟨v, hv, kv⟩ := hdep ⟨0, .data⟩ (by simp) rfl _ rfl
          have qv := kv _ rfl
          rw [hT] at hv
          obtain rfl : v = digV kl := hv
          obtain ⟨u, hu, ku⟩ := hdep ⟨1, .data⟩ (by simp) rfl _ rfl
          have qu := ku _ rfl
          rw [hT] at hu
          obtain ⟨pu, rfl, lu, iu⟩ := hu
          go_simp
          refine (L1.out w2 pu lu iu).mono ?_
          rintro e w3 ⟨p, rfl, hl, hin, hex⟩
          exact hK _ _ hex (by rw [hT]; exact ⟨p, rfl, hl, hin⟩)
        · rw [if_pos (by rfl)]
          intro K hK
          obtain ⟨v, hv, kv⟩ := hdep ⟨2, .data⟩ (by simp) rfl _ rfl
          have qv := kv _ rfl
          rw [hT] at hv
          obtain ⟨pv, rfl, lv, iv⟩ := hv
          have q : a.tmps[75]?.getD undef = .slice pv.ad 0 pv.cap := by rw [← Array.getD_eq_getD_getElem?, qv]; unfold Pt.V; rw [lv]; rfl
          clear hsz hdep hout qv kv lv
          go_simp
          exact hK _ _ (Ex.refl _) (by rw [hT]; rfl)
        · rw [if_pos (by rfl)]
          intro K hK
          obtain ⟨v, hv, kv⟩ := hdep ⟨3, .data⟩ (by simp) rfl _ rfl
          have qv := kv _ rfl
          rw [hT] at hv
          obtain rfl : v = .int .i64 0 := hv
          clear hsz hdep hout kv
          go_simp
          exact hK _ _ (Ex.refl _) (by rw [hT]; rfl)
        · rw [if_pos (by rfl)]
          intro K hK
          obtain ⟨v, hv, kv⟩ := hdep ⟨4, .data⟩ (by simp) rfl _ rfl
          have qv := kv _ rfl
          rw [hT] at hv
          obtain rfl : v = .bool true := hv
          exact wp_mv _ rfl (hK _ _ (Ex.refl _) (by rw [hT]; exact qv))
        · obtain ⟨vg, hvg, kg⟩ := hdep ⟨5, .guard⟩ (by simp) rfl _ rfl
          rw [hT] at hvg
          obtain rfl : vg = .bool true := hvg
          rw [if_pos (wanted_of rfl rfl rfl (kg _ rfl))]
          intro K hK
          have f := hout 1 (outB_spec (by kernel_rfl))
          exact wp_ld _ w.heap.size kl rfl f (HA.out.ext (Ex.trans (show Ex wr wr.drew from (Below.refl _ _).drew) hx)) (hK _ _ (Ex.refl _) (by rw [hT]; rfl))
        · obtain ⟨vg, hvg, kg⟩ := hdep ⟨5, .guard⟩ (by simp) rfl _ rfl
          rw [hT] at hvg
          obtain rfl : vg = .bool true := hvg
          rw [if_pos (wanted_of rfl rfl rfl (kg _ rfl))]
          intro K hK
          clear hsz hdep hout kg
          refine wp_mk _ _ rfl 8184 rfl rfl (by omega) (fun w3 o3 x3 => ?_)
          obtain ⟨p, e, l, i⟩ := mk8 _ _ _ o3
          exact hK _ _ x3 (by rw [hT]; exact ⟨p, e, by rw [l, HZ2.out], i⟩)
        · obtain ⟨vg, hvg, kg⟩ := hdep ⟨5, .guard⟩ (by simp) rfl _ rfl
          rw [hT] at hvg
          obtain rfl : vg = .bool true := hvg
          rw [if_pos (wanted_of rfl rfl rfl (kg _ rfl))]
          intro K hK
          obtain ⟨v, hv, kv⟩ := hdep ⟨6, .data⟩ (by simp) rfl _ rfl
          have qv := kv _ rfl
          rw [hT] at hv
          obtain rfl : v = digV kl := hv
          obtain ⟨u, hu, ku⟩ := hdep ⟨7, .data⟩ (by simp) rfl _ rfl
          have qu := ku _ rfl
          rw [hT] at hu
          obtain ⟨pu, rfl, lu, iu⟩ := hu
          go_simp
          refine (L2.out w2 pu lu iu).mono ?_
          rintro e w3 ⟨p, rfl, hl, hin, hex⟩
          exact hK _ _ hex (by rw [hT]; exact ⟨p, rfl, hl, hin⟩)
        · obtain ⟨vg, hvg, kg⟩ := hdep ⟨5, .guard⟩ (by simp) rfl _ rfl
          rw [hT] at hvg
          obtain rfl : vg = .bool true := hvg
          rw [if_pos (wanted_of rfl rfl rfl (kg _ rfl))]
          intro K hK
          obtain ⟨v, hv, kv⟩ := hdep ⟨8, .data⟩ (by simp) rfl _ rfl
          have qv := kv _ rfl
          rw [hT] at hv
          obtain ⟨pv, rfl, lv, iv⟩ := hv
          have q : a.tmps[81]?.getD undef = .slice pv.ad 8192 pv.cap := by rw [← Array.getD_eq_getD_getElem?, qv]; unfold Pt.V; rw [lv]; rw [HS9.out]
          clear hsz hdep hout qv kv lv kg
          go_simp
          exact hK _ _ (Ex.refl _) (by rw [hT]; rfl)
        · obtain ⟨vg, hvg, kg⟩ := hdep ⟨5, .guard⟩ (by simp) rfl _ rfl
          rw [hT] at hvg
          obtain rfl : vg = .bool true := hvg
          rw [if_pos (wanted_of rfl rfl rfl (kg _ rfl))]
          intro K hK
          obtain ⟨v, hv, kv⟩ := hdep ⟨9, .data⟩ (by simp) rfl _ rfl
          have qv := kv _ rfl
          rw [hT] at hv
          obtain rfl : v = .int .i64 8192 := hv
          clear hsz hdep hout kg kv
          go_simp
          exact hK _ _ (Ex.refl _) (by rw [hT]; rfl)
        · rw [if_pos (by rfl)]
          intro K hK
          obtain ⟨v, hv, kv⟩ := hdep ⟨5, .data⟩ (by simp) rfl _ rfl
          have qv := kv _ rfl
          rw [hT] at hv
          obtain rfl : v = .bool true := hv
          obtain ⟨u, hu, ku⟩ := hdep ⟨10, .data⟩ (by simp) rfl _ rfl
          have qu := ku _ rfl
          rw [hT] at hu
          obtain rfl : u = .bool true := hu
          clear hsz hdep hout
          go_simp
          exact hK _ _ (Ex.refl _) (by rw [hT]; rfl)
        · rw [if_pos (by rfl)]
          intro K hK
          obtain ⟨v, hv, kv⟩ := hdep ⟨11, .data⟩ (by simp) rfl _ rfl
          have qv := kv _ rfl
          rw [hT] at hv
          obtain rfl : v = .bool true := hv
          exact wp_mv _ rfl (hK _ _ (Ex.refl _) (by rw [hT]; exact qv))
        · obtain ⟨vg, hvg, kg⟩ := hdep ⟨12, .guard⟩ (by simp) rfl _ rfl
          rw [hT] at hvg
          obtain rfl : vg = .bool true := hvg
          rw [if_pos (wanted_of rfl rfl rfl (kg _ rfl))]
          intro K hK
          have f := hout 1 (outB_spec (by kernel_rfl))
          exact wp_ld _ w.heap.size kl rfl f (HA.out.ext (Ex.trans (show Ex wr wr.drew from (Below.refl _ _).drew) hx)) (hK _ _ (Ex.refl _) (by rw [hT]; rfl))
        · obtain ⟨vg, hvg, kg⟩ := hdep ⟨12, .guard⟩ (by simp) rfl _ rfl
          rw [hT] at hvg
          obtain rfl : vg = .bool true := hvg
          rw [if_pos (wanted_of rfl rfl rfl (kg _ rfl))]
          intro K hK
          clear hsz hdep hout kg
          refine wp_mk _ _ rfl 9000 rfl rfl (by omega) (fun w3 o3 x3 => ?_)
          obtain ⟨p, e, l, i⟩ := mk8 _ _ _ o3
          exact hK _ _ x3 (by rw [hT]; exact ⟨p, e, by rw [l, HZ3.out], i⟩)
        · obtain ⟨vg, hvg, kg⟩ := hdep ⟨12, .guard⟩ (by simp) rfl _ rfl
          rw [hT] at hvg
          obtain rfl : vg = .bool true := hvg
          rw [if_pos (wanted_of rfl rfl rfl (kg _ rfl))]
          intro K hK
          obtain ⟨v, hv, kv⟩ := hdep ⟨13, .data⟩ (by simp) rfl _ rfl
          have qv := kv _ rfl
          rw [hT] at hv
          obtain rfl : v = digV kl := hv
          obtain ⟨u, hu, ku⟩ := hdep ⟨14, .data⟩ (by simp) rfl _ rfl
          have qu := ku _ rfl
          rw [hT] at hu
          obtain ⟨pu, rfl, lu, iu⟩ := hu
          go_simp
          refine (L3.out w2 pu lu iu).mono ?_
          rintro e w3 ⟨rfl, hex⟩
          exact hK _ _ hex (by rw [hT]; rfl)
        · rw [if_pos (by rfl)]
          intro K hK
          obtain ⟨v, hv, kv⟩ := hdep ⟨12, .data⟩ (by simp) rfl _ rfl
          have qv := kv _ rfl
          rw [hT] at hv
          obtain rfl : v = .bool true := hv
          obtain ⟨u, hu, ku⟩ := hdep ⟨15, .data⟩ (by simp) rfl _ rfl
          have qu := ku _ rfl
          rw [hT] at hu
          obtain rfl : u = .bool true := hu
          clear hsz hdep hout
          go_simp
          exact hK _ _ (Ex.refl _) (by rw [hT]; rfl)
        · rw [if_pos (by rfl)]
          intro K hK
          obtain ⟨v, hv, kv⟩ := hdep ⟨16, .data⟩ (by simp) rfl _ rfl
          have qv := kv _ rfl
          rw [hT] at hv
          obtain rfl : v = .bool true := hv
          exact wp_mv _ rfl (hK _ _ (Ex.refl _) (by rw [hT]; exact qv))
        · obtain ⟨vg, hvg, kg⟩ := hdep ⟨17, .guard⟩ (by simp) rfl _ rfl
          rw [hT] at hvg
          obtain rfl : vg = .bool true := hvg
          rw [if_pos (wanted_of rfl rfl rfl (kg _ rfl))]
          intro K hK
          go_simp
          refine (KN.out w2).mono ?_
          rintro e w3 ⟨rfl, hex⟩
          exact hK _ _ hex (by rw [hT]; rfl)
        · rw [if_pos (by rfl)]
          intro K hK
          obtain ⟨v, hv, kv⟩ := hdep ⟨17, .data⟩ (by simp) rfl _ rfl
          have qv := kv _ rfl
          rw [hT] at hv
          obtain rfl : v = .bool true := hv
          obtain ⟨u, hu, ku⟩ := hdep ⟨18, .data⟩ (by simp) rfl _ rfl
          have qu := ku _ rfl
          rw [hT] at hu
          obtain rfl : u = .bool true := hu
          clear hsz hdep hout
          go_simp
          exact hK _ _ (Ex.refl _) (by rw [hT]; rfl)
      · intro a w2 hx hdef hsz hdone hout
        obtain ⟨v, hv, kv⟩ := hdone 19 _ (by omega) rfl
        have qv := kv _ rfl
        rw [hT] at hv
        obtain rfl : v = .bool true := hv
        clear hdone kv hT
        have hA := arr_range a.tmps 93 hsz
        change a.tmps = #[a.tmps[0]?.getD undef, a.tmps[1]?.getD undef, a.tmps[2]?.getD undef, a.tmps[3]?.getD undef, a.tmps[4]?.getD undef, a.tmps[5]?.getD undef, a.tmps[6]?.getD undef, a.tmps[7]?.getD undef, a.tmps[8]?.getD undef, a.tmps[9]?.getD undef, a.tmps[10]?.getD undef, a.tmps[11]?.getD undef, a.tmps[12]?.getD undef, a.tmps[13]?.getD undef, a.tmps[14]?.getD undef, a.tmps[15]?.getD undef, a.tmps[16]?.getD undef, a.tmps[17]?.getD undef, a.tmps[18]?.getD undef, a.tmps[19]?.getD undef, a.tmps[20]?.getD undef, a.tmps[21]?.getD undef, a.tmps[22]?.getD undef, a.tmps[23]?.getD undef, a.tmps[24]?.getD undef, a.tmps[25]?.getD undef, a.tmps[26]?.getD undef, a.tmps[27]?.getD undef, a.tmps[28]?.getD undef, a.tmps[29]?.getD undef, a.tmps[30]?.getD undef, a.tmps[31]?.getD undef, a.tmps[32]?.getD undef, a.tmps[33]?.getD undef, a.tmps[34]?.getD undef, a.tmps[35]?.getD undef, a.tmps[36]?.getD undef, a.tmps[37]?.getD undef, a.tmps[38]?.getD undef, a.tmps[39]?.getD undef, a.tmps[40]?.getD undef, a.tmps[41]?.getD undef, a.tmps[42]?.getD undef, a.tmps[43]?.getD undef, a.tmps[44]?.getD undef, a.tmps[45]?.getD undef, a.tmps[46]?.getD undef, a.tmps[47]?.getD undef, a.tmps[48]?.getD undef, a.tmps[49]?.getD undef, a.tmps[50]?.getD undef, a.tmps[51]?.getD undef, a.tmps[52]?.getD undef, a.tmps[53]?.getD undef, a.tmps[54]?.getD undef, a.tmps[55]?.getD undef, a.tmps[56]?.getD undef, a.tmps[57]?.getD undef, a.tmps[58]?.getD undef, a.tmps[59]?.getD undef, a.tmps[60]?.getD undef, a.tmps[61]?.getD undef, a.tmps[62]?.getD undef, a.tmps[63]?.getD undef, a.tmps[64]?.getD undef, a.tmps[65]?.getD undef, a.tmps[66]?.getD undef, a.tmps[67]?.getD undef, a.tmps[68]?.getD undef, a.tmps[69]?.getD undef, a.tmps[70]?.getD undef, a.tmps[71]?.getD undef, a.tmps[72]?.getD undef, a.tmps[73]?.getD undef, a.tmps[74]?.getD undef, a.tmps[75]?.getD undef, a.tmps[76]?.getD undef, a.tmps[77]?.getD undef, a.tmps[78]?.getD undef, a.tmps[79]?.getD undef, a.tmps[80]?.getD undef, a.tmps[81]?.getD undef, a.tmps[82]?.getD undef, a.tmps[83]?.getD undef, a.tmps[84]?.getD undef, a.tmps[85]?.getD undef, a.tmps[86]?.getD undef, a.tmps[87]?.getD undef, a.tmps[88]?.getD undef, a.tmps[89]?.getD undef, a.tmps[90]?.getD undef, a.tmps[91]?.getD undef, a.tmps[92]?.getD undef] at hA
        have e1 := hout 1 (fun i o _ h => outB_spec (by kernel_rfl) i o h)
        have e2 := hout 2 (fun i o _ h => outB_spec (by kernel_rfl) i o h)
        have e3 := hout 3 (fun i o _ h => outB_spec (by kernel_rfl) i o h)
        have e4 := hout 4 (fun i o _ h => outB_spec (by kernel_rfl) i o h)
        have e5 := hout 5 (fun i o _ h => outB_spec (by kernel_rfl) i o h)
        have e6 := hout 6 (fun i o _ h => outB_spec (by kernel_rfl) i o h)
        have e7 := hout 7 (fun i o _ h => outB_spec (by kernel_rfl) i o h)
        have e8 := hout 8 (fun i o _ h => outB_spec (by kernel_rfl) i o h)
        have e9 := hout 9 (fun i o _ h => outB_spec (by kernel_rfl) i o h)
        have e10 := hout 10 (fun i o _ h => outB_spec (by kernel_rfl) i o h)
        have e11 := hout 11 (fun i o _ h => outB_spec (by kernel_rfl) i o h)
        have e12 := hout 12 (fun i o _ h => outB_spec (by kernel_rfl) i o h)
        have e13 := hout 13 (fun i o _ h => outB_spec (by kernel_rfl) i o h)
        have e14 := hout 14 (fun i o _ h => outB_spec (by kernel_rfl) i o h)
        have e15 := hout 15 (fun i o _ h => outB_spec (by kernel_rfl) i o h)
        have e16 := hout 16 (fun i o _ h => outB_spec (by kernel_rfl) i o h)
        have e17 := hout 17 (fun i o _ h => outB_spec (by kernel_rfl) i o h)
        have e18 := hout 18 (fun i o _ h => outB_spec (by kernel_rfl) i o h)
        have e19 := hout 19 (fun i o _ h => outB_spec (by kernel_rfl) i o h)
        have e20 := hout 20 (fun i o _ h => outB_spec (by kernel_rfl) i o h)
        have e21 := hout 21 (fun i o _ h => outB_spec (by kernel_rfl) i o h)
        have e22 := hout 22 (fun i o _ h => outB_spec (by kernel_rfl) i o h)
        have e23 := hout 23 (fun i o _ h => outB_spec (by kernel_rfl) i o h)
        have e24 := hout 24 (fun i o _ h => outB_spec (by kernel_rfl) i o h)
        have e25 := hout 25 (fun i o _ h => outB_spec (by kernel_rfl) i o h)
        have e26 := hout 26 (fun i o _ h => outB_spec (by kernel_rfl) i o h)
        have e27 := hout 27 (fun i o _ h => outB_spec (by kernel_rfl) i o h)
        have e28 := hout 28 (fun i o _ h => outB_spec (by kernel_rfl) i o h)
        have e29 := hout 29 (fun i o _ h => outB_spec (by kernel_rfl) i o h)
        have e30 := hout 30 (fun i o _ h => outB_spec (by kernel_rfl) i o h)
        have e31 := hout 31 (fun i o _ h => outB_spec (by kernel_rfl) i o h)
        have e32 := hout 32 (fun i o _ h => outB_spec (by kernel_rfl) i o h)
        have e33 := hout 33 (fun i o _ h => outB_spec (by kernel_rfl) i o h)
        have e34 := hout 34 (fun i o _ h => outB_spec (by kernel_rfl) i o h)
        have e35 := hout 35 (fun i o _ h => outB_spec (by kernel_rfl) i o h)
        have e36 := hout 36 (fun i o _ h => outB_spec (by kernel_rfl) i o h)
        have e37 := hout 37 (fun i o _ h => outB_spec (by kernel_rfl) i o h)
        have e38 := hout 38 (fun i o _ h => outB_spec (by kernel_rfl) i o h)
        have e39 := hout 39 (fun i o _ h => outB_spec (by kernel_rfl) i o h)
        have e40 := hout 40 (fun i o _ h => outB_spec (by kernel_rfl) i o h)
        have e41 := hout 41 (fun i o _ h => outB_spec (by kernel_rfl) i o h)
        have e42 := hout 42 (fun i o _ h => outB_spec (by kernel_rfl) i o h)
        have e43 := hout 43 (fun i o _ h => outB_spec (by kernel_rfl) i o h)
        have e44 := hout 44 (fun i o _ h => outB_spec (by kernel_rfl) i o h)
        have e45 := hout 45 (fun i o _ h => outB_spec (by kernel_rfl) i o h)
        have e46 := hout 46 (fun i o _ h => outB_spec (by kernel_rfl) i o h)
        have e47 := hout 47 (fun i o _ h => outB_spec (by kernel_rfl) i o h)
        have e48 := hout 48 (fun i o _ h => outB_spec (by kernel_rfl) i o h)
        have e49 := hout 49 (fun i o _ h => outB_spec (by kernel_rfl) i o h)
        have e50 := hout 50 (fun i o _ h => outB_spec (by kernel_rfl) i o h)
        have e51 := hout 51 (fun i o _ h => outB_spec (by kernel_rfl) i o h)
        have e52 := hout 52 (fun i o _ h => outB_spec (by kernel_rfl) i o h)
        have e53 := hout 53 (fun i o _ h => outB_spec (by kernel_rfl) i o h)
        have e54 := hout 54 (fun i o _ h => outB_spec (by kernel_rfl) i o h)
        have e55 := hout 55 (fun i o _ h => outB_spec (by kernel_rfl) i o h)
        have e56 := hout 56 (fun i o _ h => outB_spec (by kernel_rfl) i o h)
        have e57 := hout 57 (fun i o _ h => outB_spec (by kernel_rfl) i o h)
        have e58 := hout 58 (fun i o _ h => outB_spec (by kernel_rfl) i o h)
        have e59 := hout 59 (fun i o _ h => outB_spec (by kernel_rfl) i o h)
        have e60 := hout 60 (fun i o _ h => outB_spec (by kernel_rfl) i o h)
        have e61 := hout 61 (fun i o _ h => outB_spec (by kernel_rfl) i o h)
        have e62 := hout 62 (fun i o _ h => outB_spec (by kernel_rfl) i o h)
        have e63 := hout 63 (fun i o _ h => outB_spec (by kernel_rfl) i o h)
        have e64 := hout 64 (fun i o _ h => outB_spec (by kernel_rfl) i o h)
        have e65 := hout 65 (fun i o _ h => outB_spec (by kernel_rfl) i o h)
        have e66 := hout 66 (fun i o _ h => outB_spec (by kernel_rfl) i o h)
        have e67 := hout 67 (fun i o _ h => outB_spec (by kernel_rfl) i o h)
        have e68 := hout 68 (fun i o _ h => outB_spec (by kernel_rfl) i o h)
        have e69 := hout 69 (fun i o _ h => outB_spec (by kernel_rfl) i o h)
        have e70 := hout 70 (fun i o _ h => outB_spec (by kernel_rfl) i o h)
        have e71 := hout 71 (fun i o _ h => outB_spec (by kernel_rfl) i o h)
        have e72 := hout 72 (fun i o _ h => outB_spec (by kernel_rfl) i o h)
        simp only [Array.getD_eq_getD_getElem?, List.getElem?_toArray, List.getElem?_cons_zero, List.getElem?_cons_succ, Option.getD_some] at e1 e2 e3 e4 e5 e6 e7 e8 e9 e10 e11 e12 e13 e14 e15 e16 e17 e18 e19 e20 e21 e22 e23 e24 e25 e26 e27 e28 e29 e30 e31 e32 e33 e34 e35 e36 e37 e38 e39 e40 e41 e42 e43 e44 e45 e46 e47 e48 e49 e50 e51 e52 e53 e54 e55 e56 e57 e58 e59 e60 e61 e62 e63 e64 e65 e66 e67 e68 e69 e70 e71 e72
        rw [e1, e2, e3, e4, e5, e6, e7, e8, e9, e10, e11, e12, e13, e14, e15, e16, e17, e18, e19, e20, e21, e22, e23, e24, e25, e26, e27, e28, e29, e30, e31, e32, e33, e34, e35, e36, e37, e38, e39, e40, e41, e42, e43, e44, e45, e46, e47, e48, e49, e50, e51, e52, e53, e54, e55, e56, e57, e58, e59, e60, e61, e62, e63, e64, e65, e66, e67, e68, e69, e70, e71, e72] at hA
        clear e1 e2 e3 e4 e5 e6 e7 e8 e9 e10 e11 e12 e13 e14 e15 e16 e17 e18 e19 e20 e21 e22 e23 e24 e25 e26 e27 e28 e29 e30 e31 e32 e33 e34 e35 e36 e37 e38 e39 e40 e41 e42 e43 e44 e45 e46 e47 e48 e49 e50 e51 e52 e53 e54 e55 e56 e57 e58 e59 e60 e61 e62 e63 e64 e65 e66 e67 e68 e69 e70 e71 e72 hout
        have hds2 : a.defers = [] := hdef
        have ea : a = ⟨a.tmps, a.defers⟩ := rfl
        have s92 : a.tmps[92]?.getD undef = .bool true := by simpa [Array.getD_eq_getD_getElem?] using qv
        rw [hA, hds2, s92] at ea
        clear hA hds2 s92 qv hdef
        generalize a.tmps[73]?.getD undef = y73 at ea
        generalize a.tmps[74]?.getD undef = y74 at ea
        generalize a.tmps[75]?.getD undef = y75 at ea
        generalize a.tmps[76]?.getD undef = y76 at ea
        generalize a.tmps[77]?.getD undef = y77 at ea
        generalize a.tmps[78]?.getD undef = y78 at ea
        generalize a.tmps[79]?.getD undef = y79 at ea
        generalize a.tmps[80]?.getD undef = y80 at ea
        generalize a.tmps[81]?.getD undef = y81 at ea
        generalize a.tmps[82]?.getD undef = y82 at ea
        generalize a.tmps[83]?.getD undef = y83 at ea
        generalize a.tmps[84]?.getD undef = y84 at ea
        generalize a.tmps[85]?.getD undef = y85 at ea
        generalize a.tmps[86]?.getD undef = y86 at ea
        generalize a.tmps[87]?.getD undef = y87 at ea
        generalize a.tmps[88]?.getD undef = y88 at ea
        generalize a.tmps[89]?.getD undef = y89 at ea
        generalize a.tmps[90]?.getD undef = y90 at ea
        generalize a.tmps[91]?.getD undef = y91 at ea
        generalize a.tmps[0]?.getD undef = y0 at ea
        clear hsz
        subst ea
        have bx : Below wr.heap.size wr w2 := Below.trans (Below.refl _ _).drew hx
        unfold wpOp
        simp only [List.getElem?_toArray, List.getElem?_cons_zero, List.getElem?_cons_succ]
        rw [if_pos (by rfl)]
        left
        have bw10 := bwr.trans (bx.mono bzr)
        go_simp
        go_wp2_with fail
        go_ret
        exact ⟨rfl, bw10⟩
theorem veilNumbers_law (w : World) :
    Calls Try.prog 12 #[] w fun e w' => e = .returned (.bool true) ∧ Below w.heap.size w w' := vnumbers_any w
end Go.Proofs.Ytkneeocicbadjaa
