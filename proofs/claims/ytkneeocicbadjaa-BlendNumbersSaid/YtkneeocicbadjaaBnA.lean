/- walks: BlendNumbers -/
import Derived.Test.YtkneeocicbadjaaBlH
import Derived.Test.YtkneeocicbadjaaBlJ
import Derived.Test.YtkneeocicbadjaaKnA
namespace Go.Proofs.Ytkneeocicbadjaa
open Go.RowKit
def rowN (j : Nat) : List UInt8 := (List.range j).map fun (i : Nat) => by8 ((i : Int) * 37)
theorem rowN_succ (j : Nat) : rowN (j + 1) = rowN j ++ [by8 ((j : Int) * 37)] := by
  unfold rowN; rw [List.range_succ]; simp
theorem rowN_len (j : Nat) : (rowN j).length = j := by simp [rowN]
def e9L : List UInt8 := [9, 0, 0, 0, 0, 0, 0, 0, 0, 0, 0, 0, 0, 0, 0, 0]
set_option maxHeartbeats 8000000 in
set_option maxRecDepth 100000 in
theorem bnums_any (w : World) :
    Calls Try.prog 3 #[] w fun e w' => e = .returned (.bool true) ∧ Below w.heap.size w w' := by
  go_enter Try.func3, Try.ntmps3
  go_wp2_with fail
  go_loopw [1, 2] (fun v i wr => ∃ j : Nat, j ≤ 70 ∧ i = .int .i64 j ∧ Hid (ownU wr w.heap.size v (rowN j)) ∧ Below w.heap.size w wr) (fun _ i _ => 70 - (intOf i).toNat)
  case atStart => exact ⟨0, by omega, rfl, Lib.hid (World.ownsRow_nil _ _ _ _), Below.refl _ _⟩
  case round =>
    obtain ⟨j, hj, rfl, own, bw⟩ := hrel
    by_cases hlt : j < 70
    · obtain ⟨q, rfl, hql, hqi, hqo⟩ := own_pt own.out
      obtain ⟨L, hL⟩ : ∃ L, L = rowN j := ⟨_, rfl⟩
      rw [← hL] at hql
      have hLl : L.length = j := by rw [hL, rowN_len]
      obtain ⟨D, hD⟩ : ∃ D, D = sumL L := ⟨_, rfl⟩
      have hDl : D.length = 16 := by rw [hD]; rfl
      have SR := Lib.hid (show ∀ (W : World) (p : Pt), p.l = L → p.In W W.heap.size → Calls Try.prog 20 #[p.V] W fun e w' => e = .returned (digV D) ∧ Below W.heap.size W w' from fun W p hp hi => by
        have h := rsum_pt p W hi (by rw [hp, hLl]; omega)
        rw [hp, ← hD] at h; exact h)
      have SB := Lib.hid (show ∀ (W : World) (p : Pt), p.l = L → p.In W W.heap.size → Calls Try.prog 21 #[p.V] W fun e w' => e = .returned (digV D) ∧ Below W.heap.size W w' from fun W p hp hi => by
        have h := sum_pt p W hi (by rw [hp, hLl]; omega)
        rw [hp, ← hD] at h; exact h)
      obtain ⟨Ky, hK0⟩ : ∃ K, K = sumL (D ++ L) := ⟨_, rfl⟩
      have hKyl : Ky.length = 16 := by rw [hK0]; rfl
      have KB := Lib.hid (show ∀ (W : World) (p : Pt), p.l = L → p.In W W.heap.size → Calls Try.prog 22 #[digV D, p.V] W fun e w' => e = .returned (digV Ky) ∧ Below W.heap.size W w' from fun W p hp hi => by
        have h := keyed_any D hDl p W hi (by rw [hp, hLl]; omega)
        rw [hp, ← hK0] at h; exact h)
      have KR := Lib.hid (show ∀ (W : World) (p : Pt), p.l = L → p.In W W.heap.size → Calls Try.prog 23 #[digV D, p.V] W fun e w' => e = .returned (digV Ky) ∧ Below W.heap.size W w' from fun W p hp hi => by
        have h := rkeyed_any D hDl p W hi (by rw [hp, hLl]; omega)
        rw [hp, ← hK0] at h; exact h)
      obtain ⟨E9, hE9⟩ : ∃ E, E = e9L := ⟨_, rfl⟩
      have hE9l : E9.length = 16 := by rw [hE9]; rfl
      have HE9 := Lib.hid (show digV E9 = .agg #[.int .u8 9, .int .u8 0, .int .u8 0, .int .u8 0, .int .u8 0, .int .u8 0, .int .u8 0, .int .u8 0, .int .u8 0, .int .u8 0, .int .u8 0, .int .u8 0, .int .u8 0, .int .u8 0, .int .u8 0, .int .u8 0] from by rw [hE9]; rfl)
      obtain ⟨X, hX⟩ : ∃ X, X = sumL (D ++ E9) := ⟨_, rfl⟩
      have hXl : X.length = 16 := by rw [hX]; rfl
      have TB := Lib.hid (show ∀ W : World, Calls Try.prog 24 #[digV D, digV E9] W fun e w' => e = .returned (digV X) ∧ Below W.heap.size W w' from fun W => by
        have h := two_any D E9 hDl hE9l W
        rw [← hX] at h; exact h)
      have TR := Lib.hid (show ∀ W : World, Calls Try.prog 25 #[digV D, digV E9] W fun e w' => e = .returned (digV X) ∧ Below W.heap.size W w' from fun W => by
        have h := rtwo_any D E9 hDl hE9l W
        rw [← hX] at h; exact h)
      obtain ⟨Z, hZ⟩ : ∃ Z, Z = streamL D (j : Int) j := ⟨_, rfl⟩
      have STB := Lib.hid (show ∀ W : World, Calls Try.prog 26 #[digV D, .int .u64 j, .int .i64 j] W (PtPost Z W) from fun W => by
        rw [hZ]; exact stream_any D hDl (j : Int) (by omega) (by omega) j (by omega) W)
      have STR := Lib.hid (show ∀ W : World, Calls Try.prog 27 #[digV D, .int .u64 j, .int .i64 j] W (PtPost Z W) from fun W => by
        rw [hZ]; exact rstream_any D hDl (j : Int) (by omega) (by omega) j (by omega) W)
      obtain ⟨ds, hds⟩ : ∃ ds, ds = Lib.byteCells D := ⟨_, rfl⟩
      have hval : digV D = .agg ds.toArray := by rw [hds]; rfl
      have hdl : ds.length = 16 := by rw [hds]; simp [Lib.byteCells, hDl]
      have HO := Lib.hid (show ds.toArray.all (·.oneCell') = true by rw [hds]; exact bytes_one _)
      have hi3 := Lib.hid (show (Try.prog.info? 24).map (·.size) = some ds.toArray.size by rw [sm_dsize]; simp [hdl])
      have hi4 := Lib.hid (show (Try.prog.info? 24).map (·.size) = some ds.length by rw [sm_dsize, hdl])
      have HV := Lib.hid hval
      have HDL := Lib.hid hdl
      obtain ⟨dd, hd⟩ : ∃ d, Try.prog.underlying 24 = some d ∧ d.isRow = true := ⟨_, Try.underlying24, rfl⟩
      have HD := Lib.hid hd
      have HQL := Lib.hid hql
      have HQI := Lib.hid hqi
      have HL := Lib.hid hL
      have SJ : Hid (IntKind.u64.wrap (j : Int) = j) := Lib.hid (by unfold IntKind.wrap; simp [IntKind.bits, IntKind.signed]; omega)
      have HX := Lib.hid (by8_cells ((j : Int) * 37))
      have HRS := Lib.hid (rowN_succ j)
      have HRL := Lib.hid (rowN_len j)
      have HLl := Lib.hid hLl
      obtain ⟨qV, hqv⟩ : ∃ x, x = q.V := ⟨_, rfl⟩
      have HQV := Lib.hid hqv
      rw [← hqv] at own ⊢
      clear hval hdl hd hds hZ hX hE9 hK0 hD hql hqi hqo hL hLl hqv
      go_wp2_with fail
      rw [HQV.out]
      refine (SR.out wr q HQL.out HQI.out).mono ?_
      rintro e w1 ⟨rfl, b1⟩
      rw [HV.out]
      have z0 := bw.size
      have z1 := b1.size
      have T1 := Lib.hid (show (w1.alloc (.cells zero16 24)).there w1.heap.size 0 ds.toArray.size by rw [show ds.toArray.size = 16 by simp [HDL.out]]; exact (Bk.new rfl _ _).there 16 rfl)
      rw [← HQV.out]
      go_wp2_with ((with_reducible refine sm_at_store ?_ ?_); (focus go_simp); (refine fun K hK => wp_store_mid 24 _ _ rfl w1.heap.size 0 ds.toArray rfl rfl T1.out hi3.out HO.out (hK _ _ ?_)))
      change Code.wp Try.prog _ _ _ ((w1.alloc (.cells zero16 24)).setCells w1.heap.size 0 ds.toArray.toList)
      have k3 := rowAll (Bk.new (w := w1) rfl 24 zero16) (show ds.toArray.size = zero16.size by simp [HDL.out]; rfl)
      have x1 : Ex wr w1 := b1
      have x2 : Ex wr ((w1.alloc (.cells zero16 24)).setCells w1.heap.size 0 ds.toArray.toList) := sm_below_setCells _ _ _ z1 (Below.alloc x1 z1 _)
      clear T1
      generalize (w1.alloc (.cells zero16 24)).setCells w1.heap.size 0 ds.toArray.toList = wr2 at k3 x2 ⊢
      obtain ⟨g, hg⟩ : ∃ g, g = w1.heap.size := ⟨_, rfl⟩
      rw [← hg] at k3 ⊢
      have glt := k3.lt
      have RD := Lib.hid k3.range
      have hqi : q.In wr2 wr2.heap.size := HQI.out.ext x2
      have hql := HQL.out
      have own2 : Hid (ownU wr2 w.heap.size qV (rowN j)) := Lib.hid (own_under own.out x2)
      have bw2 : Below w.heap.size w wr2 := bw.trans (Below.mono x2 z0)
      have z2 := bw2.size
      clear k3 x1 b1 own bw z1 hg x2
      rw [HQV.out]
      obtain ⟨T, hT⟩ : ∃ T : List As, T = [.pt L, .is (digV D), .is (digV D), .is (.bool false), .is (.bool false), .is (digV D), .pt L, .is (digV Ky), .is (digV D), .pt L, .is (digV Ky), .is (.bool false), .is (.bool false), .is (.bool false), .is (digV D), .is (digV E9), .is (digV X), .is (digV D), .is (digV E9), .is (digV X), .is (.bool false), .is (.bool false), .is (.bool false), .is (digV D), .is (.int .i64 j), .is (.int .u64 j), .is (.int .i64 j), .pt Z, .is (.string (strL Z)), .is (digV D), .is (.int .i64 j), .is (.int .u64 j), .is (.int .i64 j), .pt Z, .is (.string (strL Z)), .is (.bool false)] := ⟨_, rfl⟩
      refine wp_region_flow 36 (tabPhi T) (by kernel_rfl) rfl (by kernel_rfl) (by kernel_rfl) (by kernel_rfl) (tabPhi_stable T) (fitB_spec (by kernel_rfl)) ?_ ?_
      · intro i o hi ho
        have hi' : i = 0 ∨ i = 1 ∨ i = 2 ∨ i = 3 ∨ i = 4 ∨ i = 5 ∨ i = 6 ∨ i = 7 ∨ i = 8 ∨ i = 9 ∨ i = 10 ∨ i = 11 ∨ i = 12 ∨ i = 13 ∨ i = 14 ∨ i = 15 ∨ i = 16 ∨ i = 17 ∨ i = 18 ∨ i = 19 ∨ i = 20 ∨ i = 21 ∨ i = 22 ∨ i = 23 ∨ i = 24 ∨ i = 25 ∨ i = 26 ∨ i = 27 ∨ i = 28 ∨ i = 29 ∨ i = 30 ∨ i = 31 ∨ i = 32 ∨ i = 33 ∨ i = 34 ∨ i = 35 := by omega
        rcases hi' with rfl | rfl | rfl | rfl | rfl | rfl | rfl | rfl | rfl | rfl | rfl | rfl | rfl | rfl | rfl | rfl | rfl | rfl | rfl | rfl | rfl | rfl | rfl | rfl | rfl | rfl | rfl | rfl | rfl | rfl | rfl | rfl | rfl | rfl | rfl | rfl
        all_goals (simp only [List.getElem?_toArray, List.getElem?_cons_zero, List.getElem?_cons_succ, Option.some.injEq] at ho; subst ho; intro a w2 hx hsz hdep hout)
        · rw [if_pos (by rfl)]
          intro K hK
          have f := hout 1 (outB_spec (by kernel_rfl))
          exact wp_mv _ rfl (hK _ _ (Ex.refl _) (by rw [hT]; exact ⟨q, f, hql, hqi.ext (Ex.trans (show Ex wr2 wr2.drew from (Below.refl _ _).drew) hx)⟩))
        · rw [if_pos (by rfl)]
          intro K hK
          obtain ⟨v, hv, kv⟩ := hdep ⟨0, .data⟩ (by simp) rfl _ rfl
          have qv := kv _ rfl
          rw [hT] at hv
          obtain ⟨pv, rfl, lv, iv⟩ := hv
          go_simp
          refine (SB.out w2 pv lv iv).mono ?_
          rintro e w3 ⟨rfl, hex⟩
          exact hK _ _ hex (by rw [hT]; rfl)
        · rw [if_pos (by rfl)]
          intro K hK
          have f := hout 3 (outB_spec (by kernel_rfl))
          exact wp_load_mid 24 _ rfl g 0 f ds dd (fun x v hv => (hx.cell (p := ⟨g, 0 + x, none⟩) (by show g < wr2.heap.size; omega)).trans (RD.out x v hv)) HD.out.1 HD.out.2 hi4.out (hK _ _ (Ex.refl _) (by rw [hT]; exact HV.out.symm))
        · rw [if_pos (by rfl)]
          intro K hK
          obtain ⟨v, hv, kv⟩ := hdep ⟨1, .data⟩ (by simp) rfl _ rfl
          have qv := kv _ rfl
          rw [hT] at hv
          obtain rfl : v = digV D := hv
          obtain ⟨u, hu, ku⟩ := hdep ⟨2, .data⟩ (by simp) rfl _ rfl
          have qu := ku _ rfl
          rw [hT] at hu
          obtain rfl : u = digV D := hu
          exact wp_neq_dig _ _ _ rfl D D hDl hDl qv qu (hK _ _ (Ex.refl _) (by rw [hT, decide_eq_true rfl]; rfl))
        · rw [if_pos (by rfl)]
          intro K hK
          obtain ⟨v, hv, kv⟩ := hdep ⟨3, .data⟩ (by simp) rfl _ rfl
          have qv := kv _ rfl
          rw [hT] at hv
          obtain rfl : v = .bool false := hv
          exact wp_mv _ rfl (hK _ _ (Ex.refl _) (by rw [hT]; exact qv))
        · obtain ⟨vg, hvg, kg⟩ := hdep ⟨4, .guard⟩ (by simp) rfl _ rfl
          rw [hT] at hvg
          obtain rfl : vg = .bool false := hvg
          rw [if_pos (wanted_of rfl rfl rfl (kg _ rfl))]
          intro K hK
          have f := hout 3 (outB_spec (by kernel_rfl))
          exact wp_load_mid 24 _ rfl g 0 f ds dd (fun x v hv => (hx.cell (p := ⟨g, 0 + x, none⟩) (by show g < wr2.heap.size; omega)).trans (RD.out x v hv)) HD.out.1 HD.out.2 hi4.out (hK _ _ (Ex.refl _) (by rw [hT]; exact HV.out.symm))
        · obtain ⟨vg, hvg, kg⟩ := hdep ⟨4, .guard⟩ (by simp) rfl _ rfl
          rw [hT] at hvg
          obtain rfl : vg = .bool false := hvg
          rw [if_pos (wanted_of rfl rfl rfl (kg _ rfl))]
          intro K hK
          have f := hout 1 (outB_spec (by kernel_rfl))
          exact wp_mv _ rfl (hK _ _ (Ex.refl _) (by rw [hT]; exact ⟨q, f, hql, hqi.ext (Ex.trans (show Ex wr2 wr2.drew from (Below.refl _ _).drew) hx)⟩))
        · obtain ⟨vg, hvg, kg⟩ := hdep ⟨4, .guard⟩ (by simp) rfl _ rfl
          rw [hT] at hvg
          obtain rfl : vg = .bool false := hvg
          rw [if_pos (wanted_of rfl rfl rfl (kg _ rfl))]
          intro K hK
          obtain ⟨v, hv, kv⟩ := hdep ⟨5, .data⟩ (by simp) rfl _ rfl
          have qv := kv _ rfl
          rw [hT] at hv
          obtain rfl : v = digV D := hv
          obtain ⟨u, hu, ku⟩ := hdep ⟨6, .data⟩ (by simp) rfl _ rfl
          have qu := ku _ rfl
          rw [hT] at hu
          obtain ⟨pu, rfl, lu, iu⟩ := hu
          go_simp
          refine (KB.out w2 pu lu iu).mono ?_
          rintro e w3 ⟨rfl, hex⟩
          exact hK _ _ hex (by rw [hT]; rfl)
        · obtain ⟨vg, hvg, kg⟩ := hdep ⟨4, .guard⟩ (by simp) rfl _ rfl
          rw [hT] at hvg
          obtain rfl : vg = .bool false := hvg
          rw [if_pos (wanted_of rfl rfl rfl (kg _ rfl))]
          intro K hK
          have f := hout 3 (outB_spec (by kernel_rfl))
          exact wp_load_mid 24 _ rfl g 0 f ds dd (fun x v hv => (hx.cell (p := ⟨g, 0 + x, none⟩) (by show g < wr2.heap.size; omega)).trans (RD.out x v hv)) HD.out.1 HD.out.2 hi4.out (hK _ _ (Ex.refl _) (by rw [hT]; exact HV.out.symm))
        · obtain ⟨vg, hvg, kg⟩ := hdep ⟨4, .guard⟩ (by simp) rfl _ rfl
          rw [hT] at hvg
          obtain rfl : vg = .bool false := hvg
          rw [if_pos (wanted_of rfl rfl rfl (kg _ rfl))]
          intro K hK
          have f := hout 1 (outB_spec (by kernel_rfl))
          exact wp_mv _ rfl (hK _ _ (Ex.refl _) (by rw [hT]; exact ⟨q, f, hql, hqi.ext (Ex.trans (show Ex wr2 wr2.drew from (Below.refl _ _).drew) hx)⟩))
        · obtain ⟨vg, hvg, kg⟩ := hdep ⟨4, .guard⟩ (by simp) rfl _ rfl
          rw [hT] at hvg
          obtain rfl : vg = .bool false := hvg
          rw [if_pos (wanted_of rfl rfl rfl (kg _ rfl))]
          intro K hK
          obtain ⟨v, hv, kv⟩ := hdep ⟨8, .data⟩ (by simp) rfl _ rfl
          have qv := kv _ rfl
          rw [hT] at hv
          obtain rfl : v = digV D := hv
          obtain ⟨u, hu, ku⟩ := hdep ⟨9, .data⟩ (by simp) rfl _ rfl
          have qu := ku _ rfl
          rw [hT] at hu
          obtain ⟨pu, rfl, lu, iu⟩ := hu
          go_simp
          refine (KR.out w2 pu lu iu).mono ?_
          rintro e w3 ⟨rfl, hex⟩
          exact hK _ _ hex (by rw [hT]; rfl)
        · obtain ⟨vg, hvg, kg⟩ := hdep ⟨4, .guard⟩ (by simp) rfl _ rfl
          rw [hT] at hvg
          obtain rfl : vg = .bool false := hvg
          rw [if_pos (wanted_of rfl rfl rfl (kg _ rfl))]
          intro K hK
          obtain ⟨v, hv, kv⟩ := hdep ⟨7, .data⟩ (by simp) rfl _ rfl
          have qv := kv _ rfl
          rw [hT] at hv
          obtain rfl : v = digV Ky := hv
          obtain ⟨u, hu, ku⟩ := hdep ⟨10, .data⟩ (by simp) rfl _ rfl
          have qu := ku _ rfl
          rw [hT] at hu
          obtain rfl : u = digV Ky := hu
          exact wp_neq_dig _ _ _ rfl Ky Ky hKyl hKyl qv qu (hK _ _ (Ex.refl _) (by rw [hT, decide_eq_true rfl]; rfl))
        · rw [if_pos (by rfl)]
          intro K hK
          obtain ⟨v, hv, kv⟩ := hdep ⟨4, .data⟩ (by simp) rfl _ rfl
          have qv := kv _ rfl
          rw [hT] at hv
          obtain rfl : v = .bool false := hv
          obtain ⟨u, hu, ku⟩ := hdep ⟨11, .data⟩ (by simp) rfl _ rfl
          have qu := ku _ rfl
          rw [hT] at hu
          obtain rfl : u = .bool false := hu
          clear hsz hdep hout
          go_simp
          exact hK _ _ (Ex.refl _) (by rw [hT]; rfl)
        · rw [if_pos (by rfl)]
          intro K hK
          obtain ⟨v, hv, kv⟩ := hdep ⟨12, .data⟩ (by simp) rfl _ rfl
          have qv := kv _ rfl
          rw [hT] at hv
          obtain rfl : v = .bool false := hv
          exact wp_mv _ rfl (hK _ _ (Ex.refl _) (by rw [hT]; exact qv))
        · obtain ⟨vg, hvg, kg⟩ := hdep ⟨13, .guard⟩ (by simp) rfl _ rfl
          rw [hT] at hvg
          obtain rfl : vg = .bool false := hvg
          rw [if_pos (wanted_of rfl rfl rfl (kg _ rfl))]
          intro K hK
          have f := hout 3 (outB_spec (by kernel_rfl))
          exact wp_load_mid 24 _ rfl g 0 f ds dd (fun x v hv => (hx.cell (p := ⟨g, 0 + x, none⟩) (by show g < wr2.heap.size; omega)).trans (RD.out x v hv)) HD.out.1 HD.out.2 hi4.out (hK _ _ (Ex.refl _) (by rw [hT]; exact HV.out.symm))
        · obtain ⟨vg, hvg, kg⟩ := hdep ⟨13, .guard⟩ (by simp) rfl _ rfl
          rw [hT] at hvg
          obtain rfl : vg = .bool false := hvg
          rw [if_pos (wanted_of rfl rfl rfl (kg _ rfl))]
          intro K hK
          clear hsz hdep hout kg
          go_simp
          exact hK _ _ (Ex.refl _) (by rw [hT]; exact HE9.out.symm)
        · obtain ⟨vg, hvg, kg⟩ := hdep ⟨13, .guard⟩ (by simp) rfl _ rfl
          rw [hT] at hvg
          obtain rfl : vg = .bool false := hvg
          rw [if_pos (wanted_of rfl rfl rfl (kg _ rfl))]
          intro K hK
          obtain ⟨v, hv, kv⟩ := hdep ⟨14, .data⟩ (by simp) rfl _ rfl
          have qv := kv _ rfl
          rw [hT] at hv
          obtain rfl : v = digV D := hv
          obtain ⟨u, hu, ku⟩ := hdep ⟨15, .data⟩ (by simp) rfl _ rfl
          have qu := ku _ rfl
          rw [hT] at hu
          obtain rfl : u = digV E9 := hu
          go_simp
          refine (TB.out w2).mono ?_
          rintro e w3 ⟨rfl, hex⟩
          exact hK _ _ hex (by rw [hT]; rfl)
        · obtain ⟨vg, hvg, kg⟩ := hdep ⟨13, .guard⟩ (by simp) rfl _ rfl
          rw [hT] at hvg
          obtain rfl : vg = .bool false := hvg
          rw [if_pos (wanted_of rfl rfl rfl (kg _ rfl))]
          intro K hK
          have f := hout 3 (outB_spec (by kernel_rfl))
          exact wp_load_mid 24 _ rfl g 0 f ds dd (fun x v hv => (hx.cell (p := ⟨g, 0 + x, none⟩) (by show g < wr2.heap.size; omega)).trans (RD.out x v hv)) HD.out.1 HD.out.2 hi4.out (hK _ _ (Ex.refl _) (by rw [hT]; exact HV.out.symm))
        · obtain ⟨vg, hvg, kg⟩ := hdep ⟨13, .guard⟩ (by simp) rfl _ rfl
          rw [hT] at hvg
          obtain rfl : vg = .bool false := hvg
          rw [if_pos (wanted_of rfl rfl rfl (kg _ rfl))]
          intro K hK
          clear hsz hdep hout kg
          go_simp
          exact hK _ _ (Ex.refl _) (by rw [hT]; exact HE9.out.symm)
        · obtain ⟨vg, hvg, kg⟩ := hdep ⟨13, .guard⟩ (by simp) rfl _ rfl
          rw [hT] at hvg
          obtain rfl : vg = .bool false := hvg
          rw [if_pos (wanted_of rfl rfl rfl (kg _ rfl))]
          intro K hK
          obtain ⟨v, hv, kv⟩ := hdep ⟨17, .data⟩ (by simp) rfl _ rfl
          have qv := kv _ rfl
          rw [hT] at hv
          obtain rfl : v = digV D := hv
          obtain ⟨u, hu, ku⟩ := hdep ⟨18, .data⟩ (by simp) rfl _ rfl
          have qu := ku _ rfl
          rw [hT] at hu
          obtain rfl : u = digV E9 := hu
          go_simp
          refine (TR.out w2).mono ?_
          rintro e w3 ⟨rfl, hex⟩
          exact hK _ _ hex (by rw [hT]; rfl)
        · obtain ⟨vg, hvg, kg⟩ := hdep ⟨13, .guard⟩ (by simp) rfl _ rfl
          rw [hT] at hvg
          obtain rfl : vg = .bool false := hvg
          rw [if_pos (wanted_of rfl rfl rfl (kg _ rfl))]
          intro K hK
          obtain ⟨v, hv, kv⟩ := hdep ⟨16, .data⟩ (by simp) rfl _ rfl
          have qv := kv _ rfl
          rw [hT] at hv
          obtain rfl : v = digV X := hv
          obtain ⟨u, hu, ku⟩ := hdep ⟨19, .data⟩ (by simp) rfl _ rfl
          have qu := ku _ rfl
          rw [hT] at hu
          obtain rfl : u = digV X := hu
          exact wp_neq_dig _ _ _ rfl X X hXl hXl qv qu (hK _ _ (Ex.refl _) (by rw [hT, decide_eq_true rfl]; rfl))
        · rw [if_pos (by rfl)]
          intro K hK
          obtain ⟨v, hv, kv⟩ := hdep ⟨13, .data⟩ (by simp) rfl _ rfl
          have qv := kv _ rfl
          rw [hT] at hv
          obtain rfl : v = .bool false := hv
          obtain ⟨u, hu, ku⟩ := hdep ⟨20, .data⟩ (by simp) rfl _ rfl
          have qu := ku _ rfl
          rw [hT] at hu
          obtain rfl : u = .bool false := hu
          clear hsz hdep hout
          go_simp
          exact hK _ _ (Ex.refl _) (by rw [hT]; rfl)
        · rw [if_pos (by rfl)]
          intro K hK
          obtain ⟨v, hv, kv⟩ := hdep ⟨21, .data⟩ (by simp) rfl _ rfl
          have qv := kv _ rfl
          rw [hT] at hv
          obtain rfl : v = .bool false := hv
          exact wp_mv _ rfl (hK _ _ (Ex.refl _) (by rw [hT]; exact qv))
        · obtain ⟨vg, hvg, kg⟩ := hdep ⟨22, .guard⟩ (by simp) rfl _ rfl
          rw [hT] at hvg
          obtain rfl : vg = .bool false := hvg
          rw [if_pos (wanted_of rfl rfl rfl (kg _ rfl))]
          intro K hK
          have f := hout 3 (outB_spec (by kernel_rfl))
          exact wp_load_mid 24 _ rfl g 0 f ds dd (fun x v hv => (hx.cell (p := ⟨g, 0 + x, none⟩) (by show g < wr2.heap.size; omega)).trans (RD.out x v hv)) HD.out.1 HD.out.2 hi4.out (hK _ _ (Ex.refl _) (by rw [hT]; exact HV.out.symm))
        · obtain ⟨vg, hvg, kg⟩ := hdep ⟨22, .guard⟩ (by simp) rfl _ rfl
          rw [hT] at hvg
          obtain rfl : vg = .bool false := hvg
          rw [if_pos (wanted_of rfl rfl rfl (kg _ rfl))]
          intro K hK
          have f := hout 2 (outB_spec (by kernel_rfl))
          exact wp_mv _ rfl (hK _ _ (Ex.refl _) (by rw [hT]; exact f))
        · obtain ⟨vg, hvg, kg⟩ := hdep ⟨22, .guard⟩ (by simp) rfl _ rfl
          rw [hT] at hvg
          obtain rfl : vg = .bool false := hvg
          rw [if_pos (wanted_of rfl rfl rfl (kg _ rfl))]
          intro K hK
          obtain ⟨v, hv, kv⟩ := hdep ⟨24, .data⟩ (by simp) rfl _ rfl
          have qv := kv _ rfl
          rw [hT] at hv
          obtain rfl : v = .int .i64 j := hv
          clear hsz hdep hout kg kv
          go_simp
          exact hK _ _ (Ex.refl _) (by rw [hT]; show Value.int .u64 (IntKind.u64.wrap (j : Int)) = .int .u64 (j : Int); rw [SJ.out])
        · obtain ⟨vg, hvg, kg⟩ := hdep ⟨22, .guard⟩ (by simp) rfl _ rfl
          rw [hT] at hvg
          obtain rfl : vg = .bool false := hvg
          rw [if_pos (wanted_of rfl rfl rfl (kg _ rfl))]
          intro K hK
          have f := hout 2 (outB_spec (by kernel_rfl))
          exact wp_mv _ rfl (hK _ _ (Ex.refl _) (by rw [hT]; exact f))
        · obtain ⟨vg, hvg, kg⟩ := hdep ⟨22, .guard⟩ (by simp) rfl _ rfl
          rw [hT] at hvg
          obtain rfl : vg = .bool false := hvg
          rw [if_pos (wanted_of rfl rfl rfl (kg _ rfl))]
          intro K hK
          obtain ⟨v, hv, kv⟩ := hdep ⟨23, .data⟩ (by simp) rfl _ rfl
          have qv := kv _ rfl
          rw [hT] at hv
          obtain rfl : v = digV D := hv
          obtain ⟨u, hu, ku⟩ := hdep ⟨25, .data⟩ (by simp) rfl _ rfl
          have qu := ku _ rfl
          rw [hT] at hu
          obtain rfl : u = .int .u64 j := hu
          obtain ⟨x, hx, kx⟩ := hdep ⟨26, .data⟩ (by simp) rfl _ rfl
          have qx := kx _ rfl
          rw [hT] at hx
          obtain rfl : x = .int .i64 j := hx
          go_simp
          refine (STB.out w2).mono ?_
          rintro e w3 ⟨p, rfl, hl, hin, hex⟩
          exact hK _ _ hex (by rw [hT]; exact ⟨p, rfl, hl, hin⟩)
        · obtain ⟨vg, hvg, kg⟩ := hdep ⟨22, .guard⟩ (by simp) rfl _ rfl
          rw [hT] at hvg
          obtain rfl : vg = .bool false := hvg
          rw [if_pos (wanted_of rfl rfl rfl (kg _ rfl))]
          intro K hK
          obtain ⟨v, hv, kv⟩ := hdep ⟨27, .data⟩ (by simp) rfl _ rfl
          have qv := kv _ rfl
          rw [hT] at hv
          obtain ⟨pv, rfl, lv, iv⟩ := hv
          have cv := pt_conv pv w2 iv
          rw [lv] at cv
          have q : a.tmps[37]?.getD undef = .slice pv.ad (Z).length pv.cap := by rw [← Array.getD_eq_getD_getElem?, qv]; unfold Pt.V; rw [lv]
          generalize (Z).length = nn at cv q
          clear hsz hdep hout qv kv lv kg
          go_simp
          exact hK _ _ (Ex.refl _) (by rw [hT]; rfl)
        · obtain ⟨vg, hvg, kg⟩ := hdep ⟨22, .guard⟩ (by simp) rfl _ rfl
          rw [hT] at hvg
          obtain rfl : vg = .bool false := hvg
          rw [if_pos (wanted_of rfl rfl rfl (kg _ rfl))]
          intro K hK
          have f := hout 3 (outB_spec (by kernel_rfl))
          exact wp_load_mid 24 _ rfl g 0 f ds dd (fun x v hv => (hx.cell (p := ⟨g, 0 + x, none⟩) (by show g < wr2.heap.size; omega)).trans (RD.out x v hv)) HD.out.1 HD.out.2 hi4.out (hK _ _ (Ex.refl _) (by rw [hT]; exact HV.out.symm))
        · obtain ⟨vg, hvg, kg⟩ := hdep ⟨22, .guard⟩ (by simp) rfl _ rfl
          rw [hT] at hvg
          obtain rfl : vg = .bool false := hvg
          rw [if_pos (wanted_of rfl rfl rfl (kg _ rfl))]
          intro K hK
          have f := hout 2 (outB_spec (by kernel_rfl))
          exact wp_mv _ rfl (hK _ _ (Ex.refl _) (by rw [hT]; exact f))
        · obtain ⟨vg, hvg, kg⟩ := hdep ⟨22, .guard⟩ (by simp) rfl _ rfl
          rw [hT] at hvg
          obtain rfl : vg = .bool false := hvg
          rw [if_pos (wanted_of rfl rfl rfl (kg _ rfl))]
          intro K hK
          obtain ⟨v, hv, kv⟩ := hdep ⟨30, .data⟩ (by simp) rfl _ rfl
          have qv := kv _ rfl
          rw [hT] at hv
          obtain rfl : v = .int .i64 j := hv
          clear hsz hdep hout kg kv
          go_simp
          exact hK _ _ (Ex.refl _) (by rw [hT]; show Value.int .u64 (IntKind.u64.wrap (j : Int)) = .int .u64 (j : Int); rw [SJ.out])
        · obtain ⟨vg, hvg, kg⟩ := hdep ⟨22, .guard⟩ (by simp) rfl _ rfl
          rw [hT] at hvg
          obtain rfl : vg = .bool false := hvg
          rw [if_pos (wanted_of rfl rfl rfl (kg _ rfl))]
          intro K hK
          have f := hout 2 (outB_spec (by kernel_rfl))
          exact wp_mv _ rfl (hK _ _ (Ex.refl _) (by rw [hT]; exact f))
        · obtain ⟨vg, hvg, kg⟩ := hdep ⟨22, .guard⟩ (by simp) rfl _ rfl
          rw [hT] at hvg
          obtain rfl : vg = .bool false := hvg
          rw [if_pos (wanted_of rfl rfl rfl (kg _ rfl))]
          intro K hK
          obtain ⟨v, hv, kv⟩ := hdep ⟨29, .data⟩ (by simp) rfl _ rfl
          have qv := kv _ rfl
          rw [hT] at hv
          obtain rfl : v = digV D := hv
          obtain ⟨u, hu, ku⟩ := hdep ⟨31, .data⟩ (by simp) rfl _ rfl
          have qu := ku _ rfl
          rw [hT] at hu
          obtain rfl : u = .int .u64 j := hu
          obtain ⟨x, hx, kx⟩ := hdep ⟨32, .data⟩ (by simp) rfl _ rfl
          have qx := kx _ rfl
          rw [hT] at hx
          obtain rfl : x = .int .i64 j := hx
          go_simp
          refine (STR.out w2).mono ?_
          rintro e w3 ⟨p, rfl, hl, hin, hex⟩
          exact hK _ _ hex (by rw [hT]; exact ⟨p, rfl, hl, hin⟩)
        · obtain ⟨vg, hvg, kg⟩ := hdep ⟨22, .guard⟩ (by simp) rfl _ rfl
          rw [hT] at hvg
          obtain rfl : vg = .bool false := hvg
          rw [if_pos (wanted_of rfl rfl rfl (kg _ rfl))]
          intro K hK
          obtain ⟨v, hv, kv⟩ := hdep ⟨33, .data⟩ (by simp) rfl _ rfl
          have qv := kv _ rfl
          rw [hT] at hv
          obtain ⟨pv, rfl, lv, iv⟩ := hv
          have cv := pt_conv pv w2 iv
          rw [lv] at cv
          have q : a.tmps[43]?.getD undef = .slice pv.ad (Z).length pv.cap := by rw [← Array.getD_eq_getD_getElem?, qv]; unfold Pt.V; rw [lv]
          generalize (Z).length = nn at cv q
          clear hsz hdep hout qv kv lv kg
          go_simp
          exact hK _ _ (Ex.refl _) (by rw [hT]; rfl)
        · obtain ⟨vg, hvg, kg⟩ := hdep ⟨22, .guard⟩ (by simp) rfl _ rfl
          rw [hT] at hvg
          obtain rfl : vg = .bool false := hvg
          rw [if_pos (wanted_of rfl rfl rfl (kg _ rfl))]
          intro K hK
          obtain ⟨v, hv, kv⟩ := hdep ⟨28, .data⟩ (by simp) rfl _ rfl
          have qv := kv _ rfl
          rw [hT] at hv
          obtain rfl : v = .string (strL Z) := hv
          obtain ⟨u, hu, ku⟩ := hdep ⟨34, .data⟩ (by simp) rfl _ rfl
          have qu := ku _ rfl
          rw [hT] at hu
          obtain rfl : u = .string (strL Z) := hu
          clear hsz hdep hout kg kv ku
          go_simp
          exact hK _ _ (Ex.refl _) (by rw [hT]; rfl)
      · intro a w2 hx hdef hsz hdone hout
        obtain ⟨v, hv, kv⟩ := hdone 22 _ (by omega) rfl
        have qv := kv _ rfl
        rw [hT] at hv
        obtain rfl : v = .bool false := hv
        obtain ⟨u, hu, ku⟩ := hdone 35 _ (by omega) rfl
        have qu := ku _ rfl
        rw [hT] at hu
        obtain rfl : u = .bool false := hu
        clear hdone kv ku hT
        have hA := arr_range a.tmps 66 hsz
        change a.tmps = #[a.tmps[0]?.getD undef, a.tmps[1]?.getD undef, a.tmps[2]?.getD undef, a.tmps[3]?.getD undef, a.tmps[4]?.getD undef, a.tmps[5]?.getD undef, a.tmps[6]?.getD undef, a.tmps[7]?.getD undef, a.tmps[8]?.getD undef, a.tmps[9]?.getD undef, a.tmps[10]?.getD undef, a.tmps[11]?.getD undef, a.tmps[12]?.getD undef, a.tmps[13]?.getD undef, a.tmps[14]?.getD undef, a.tmps[15]?.getD undef, a.tmps[16]?.getD undef, a.tmps[17]?.getD undef, a.tmps[18]?.getD undef, a.tmps[19]?.getD undef, a.tmps[20]?.getD undef, a.tmps[21]?.getD undef, a.tmps[22]?.getD undef, a.tmps[23]?.getD undef, a.tmps[24]?.getD undef, a.tmps[25]?.getD undef, a.tmps[26]?.getD undef, a.tmps[27]?.getD undef, a.tmps[28]?.getD undef, a.tmps[29]?.getD undef, a.tmps[30]?.getD undef, a.tmps[31]?.getD undef, a.tmps[32]?.getD undef, a.tmps[33]?.getD undef, a.tmps[34]?.getD undef, a.tmps[35]?.getD undef, a.tmps[36]?.getD undef, a.tmps[37]?.getD undef, a.tmps[38]?.getD undef, a.tmps[39]?.getD undef, a.tmps[40]?.getD undef, a.tmps[41]?.getD undef, a.tmps[42]?.getD undef, a.tmps[43]?.getD undef, a.tmps[44]?.getD undef, a.tmps[45]?.getD undef, a.tmps[46]?.getD undef, a.tmps[47]?.getD undef, a.tmps[48]?.getD undef, a.tmps[49]?.getD undef, a.tmps[50]?.getD undef, a.tmps[51]?.getD undef, a.tmps[52]?.getD undef, a.tmps[53]?.getD undef, a.tmps[54]?.getD undef, a.tmps[55]?.getD undef, a.tmps[56]?.getD undef, a.tmps[57]?.getD undef, a.tmps[58]?.getD undef, a.tmps[59]?.getD undef, a.tmps[60]?.getD undef, a.tmps[61]?.getD undef, a.tmps[62]?.getD undef, a.tmps[63]?.getD undef, a.tmps[64]?.getD undef, a.tmps[65]?.getD undef] at hA
        have e0 := hout 0 (fun i o _ h => outB_spec (by kernel_rfl) i o h)
        have e1 := hout 1 (fun i o _ h => outB_spec (by kernel_rfl) i o h)
        have e2 := hout 2 (fun i o _ h => outB_spec (by kernel_rfl) i o h)
        have e3 := hout 3 (fun i o _ h => outB_spec (by kernel_rfl) i o h)
        have e4 := hout 4 (fun i o _ h => outB_spec (by kernel_rfl) i o h)
        have e5 := hout 5 (fun i o _ h => outB_spec (by kernel_rfl) i o h)
        have e6 := hout 6 (fun i o _ h => outB_spec (by kernel_rfl) i o h)
        have e7 := hout 7 (fun i o _ h => outB_spec (by kernel_rfl) i o h)
        have e8 := hout 8 (fun i o _ h => outB_spec (by kernel_rfl) i o h)
        have e9 := hout 9 (fun i o _ h => outB_spec (by kernel_rfl) i o h)
        have e47 := hout 47 (fun i o _ h => outB_spec (by kernel_rfl) i o h)
        have e48 := hout 48 (fun i o _ h => outB_spec (by kernel_rfl) i o h)
        have e49 := hout 49 (fun i o _ h => outB_spec (by kernel_rfl) i o h)
        have e50 := hout 50 (fun i o _ h => outB_spec (by kernel_rfl) i o h)
        have e51 := hout 51 (fun i o _ h => outB_spec (by kernel_rfl) i o h)
        have e52 := hout 52 (fun i o _ h => outB_spec (by kernel_rfl) i o h)
        have e53 := hout 53 (fun i o _ h => outB_spec (by kernel_rfl) i o h)
        have e54 := hout 54 (fun i o _ h => outB_spec (by kernel_rfl) i o h)
        have e55 := hout 55 (fun i o _ h => outB_spec (by kernel_rfl) i o h)
        have e56 := hout 56 (fun i o _ h => outB_spec (by kernel_rfl) i o h)
        have e57 := hout 57 (fun i o _ h => outB_spec (by kernel_rfl) i o h)
        have e58 := hout 58 (fun i o _ h => outB_spec (by kernel_rfl) i o h)
        have e59 := hout 59 (fun i o _ h => outB_spec (by kernel_rfl) i o h)
        have e60 := hout 60 (fun i o _ h => outB_spec (by kernel_rfl) i o h)
        have e61 := hout 61 (fun i o _ h => outB_spec (by kernel_rfl) i o h)
        have e62 := hout 62 (fun i o _ h => outB_spec (by kernel_rfl) i o h)
        have e63 := hout 63 (fun i o _ h => outB_spec (by kernel_rfl) i o h)
        have e64 := hout 64 (fun i o _ h => outB_spec (by kernel_rfl) i o h)
        have e65 := hout 65 (fun i o _ h => outB_spec (by kernel_rfl) i o h)
        simp only [Array.getD_eq_getD_getElem?, List.getElem?_toArray, List.getElem?_cons_zero, List.getElem?_cons_succ, Option.getD_some] at e0 e1 e2 e3 e4 e5 e6 e7 e8 e9 e47 e48 e49 e50 e51 e52 e53 e54 e55 e56 e57 e58 e59 e60 e61 e62 e63 e64 e65
        rw [e0, e1, e2, e3, e4, e5, e6, e7, e8, e9, e47, e48, e49, e50, e51, e52, e53, e54, e55, e56, e57, e58, e59, e60, e61, e62, e63, e64, e65] at hA
        clear e0 e1 e2 e3 e4 e5 e6 e7 e8 e9 e47 e48 e49 e50 e51 e52 e53 e54 e55 e56 e57 e58 e59 e60 e61 e62 e63 e64 e65 hout
        have hds2 : a.defers = [] := hdef
        have ea : a = ⟨a.tmps, a.defers⟩ := rfl
        have s32 : a.tmps[32]?.getD undef = .bool false := by simpa [Array.getD_eq_getD_getElem?] using qv
        have s45 : a.tmps[45]?.getD undef = .bool false := by simpa [Array.getD_eq_getD_getElem?] using qu
        rw [hA, hds2, s32, s45] at ea
        clear hA hds2 s32 qv s45 qu hdef
        generalize a.tmps[10]?.getD undef = y10 at ea
        generalize a.tmps[11]?.getD undef = y11 at ea
        generalize a.tmps[12]?.getD undef = y12 at ea
        generalize a.tmps[13]?.getD undef = y13 at ea
        generalize a.tmps[14]?.getD undef = y14 at ea
        generalize a.tmps[15]?.getD undef = y15 at ea
        generalize a.tmps[16]?.getD undef = y16 at ea
        generalize a.tmps[17]?.getD undef = y17 at ea
        generalize a.tmps[18]?.getD undef = y18 at ea
        generalize a.tmps[19]?.getD undef = y19 at ea
        generalize a.tmps[20]?.getD undef = y20 at ea
        generalize a.tmps[21]?.getD undef = y21 at ea
        generalize a.tmps[22]?.getD undef = y22 at ea
        generalize a.tmps[23]?.getD undef = y23 at ea
        generalize a.tmps[24]?.getD undef = y24 at ea
        generalize a.tmps[25]?.getD undef = y25 at ea
        generalize a.tmps[26]?.getD undef = y26 at ea
        generalize a.tmps[27]?.getD undef = y27 at ea
        generalize a.tmps[28]?.getD undef = y28 at ea
        generalize a.tmps[29]?.getD undef = y29 at ea
        generalize a.tmps[30]?.getD undef = y30 at ea
        generalize a.tmps[31]?.getD undef = y31 at ea
        generalize a.tmps[33]?.getD undef = y33 at ea
        generalize a.tmps[34]?.getD undef = y34 at ea
        generalize a.tmps[35]?.getD undef = y35 at ea
        generalize a.tmps[36]?.getD undef = y36 at ea
        generalize a.tmps[37]?.getD undef = y37 at ea
        generalize a.tmps[38]?.getD undef = y38 at ea
        generalize a.tmps[39]?.getD undef = y39 at ea
        generalize a.tmps[40]?.getD undef = y40 at ea
        generalize a.tmps[41]?.getD undef = y41 at ea
        generalize a.tmps[42]?.getD undef = y42 at ea
        generalize a.tmps[43]?.getD undef = y43 at ea
        generalize a.tmps[44]?.getD undef = y44 at ea
        generalize a.tmps[46]?.getD undef = y46 at ea
        clear hsz
        subst ea
        have bx : Below wr2.heap.size wr2 w2 := Below.trans (Below.refl _ _).drew hx
        unfold wpOp
        simp only [List.getElem?_toArray, List.getElem?_cons_zero, List.getElem?_cons_succ]
        rw [if_pos (by rfl)]
        left
        rw [← HQV.out]
        have bw3 := bw2.trans (bx.mono z2)
        have own3 : Hid (ownU w2 w.heap.size qV (rowN j)) := Lib.hid (own_under own2.out bx)
        clear own2 bw2 bx hx hqi hql RD
        have z3 := bw3.size
        go_simp
        have own4 := own3.out
        unfold ownU at own4
        rw [HRL.out] at own4
        have own4 := Lib.hid own4
        clear own3
        go_wp2_with (at_builtin; refine sm_append rfl (.tmp 47) (.tmp 51) rfl w.heap.size _ j _ rfl (own4.out.alloc _) (some ⟨w2.heap.size, 0, none⟩) 1 1 [by8 ((j : Int) * 37)] rfl ?_ rfl ?_ ?_ ?_ ?_; (focus (intro h; cases h)); (focus (intro h; refine ⟨_, rfl, ?_⟩; rw [HX.out]; exact cell_one_new _ _ _)); (focus omega); (focus (simp; omega)); intro v3 w3 hown3 hg3; have HO3 := Lib.hid hown3; have HG3 := Lib.hid hg3; clear hown3 hg3)
        have bw5 : Below w.heap.size w w3 := (bw3.alloc z3 _).grown HG3.out (by simp; omega) (fun x hx => (own4.out.lt x hx).1)
        have E1 : Hid (ownU w3 w.heap.size v3 (rowN (j + 1))) := by
          have h := HO3.out
          rw [← byteCells_app, ← HRS.out] at h
          unfold ownU
          rw [rowN_len]
          exact Lib.hid h
        clear HO3 HG3 own4
        go_roundw
        case rel => exact ⟨j + 1, by omega, by go_num, E1, bw5⟩
        case measure => simp [intOf]; omega
    · obtain rfl : j = 70 := by omega
      have C1 := Lib.hid (show ∀ W : World, Calls Try.prog 26 #[digV zeroL, .int .u64 1, .int .i64 (-1)] W (PtPost (streamL zeroL 1 0) W) from fun W => stream_c zeroL rfl 1 (by omega) (by omega) (-1) 0 (by omega) (by omega) W)
      have C2 := Lib.hid (show ∀ W : World, Calls Try.prog 26 #[digV zeroL, .int .u64 1, .int .i64 1048576] W (PtPost (streamL zeroL 1 8192) W) from fun W => stream_c zeroL rfl 1 (by omega) (by omega) 1048576 8192 (by omega) (by omega) W)
      rw [show digV zeroL = .agg #[.int .u8 0, .int .u8 0, .int .u8 0, .int .u8 0, .int .u8 0, .int .u8 0, .int .u8 0, .int .u8 0, .int .u8 0, .int .u8 0, .int .u8 0, .int .u8 0, .int .u8 0, .int .u8 0, .int .u8 0, .int .u8 0] from rfl] at C1 C2
      have z := bw.size
      clear own
      go_wp2_with fail
      refine (C1.out wr).mono ?_
      rintro e w1 ⟨p1, rfl, l1, i1, x1⟩
      have n1 : p1.l.length = 0 := by rw [l1, streamL_len]
      have V1 : p1.V = .slice p1.ad 0 p1.cap := by unfold Pt.V; rw [n1]
      rw [V1]
      have x1' : Ex wr w1 := x1
      have b1 : Below w.heap.size w w1 := bw.trans (Below.mono x1' z)
      have z1 := b1.size
      clear V1 n1 l1 i1 x1 x1'
      go_wp2_with fail
      refine (C2.out w1).mono ?_
      rintro e w2 ⟨p2, rfl, l2, i2, x2⟩
      have n2 : p2.l.length = 8192 := by rw [l2, streamL_len]
      have V2 : p2.V = .slice p2.ad 8192 p2.cap := by unfold Pt.V; rw [n2]
      rw [V2]
      have x2' : Ex w1 w2 := x2
      have b2 : Below w.heap.size w w2 := b1.trans (Below.mono x2' z1)
      have z2 := b2.size
      clear V2 n2 l2 i2 x2 x2'
      have K2 := Lib.hid (known2_any w2)
      go_wp2_with fail
      refine K2.out.mono ?_
      rintro e w3 ⟨rfl, x3⟩
      have b3 : Below w.heap.size w w3 := b2.trans (x3.mono z2)
      clear x3 K2
      go_wp2_with fail
      go_ret
      exact ⟨rfl, b3⟩
end Go.Proofs.Ytkneeocicbadjaa
