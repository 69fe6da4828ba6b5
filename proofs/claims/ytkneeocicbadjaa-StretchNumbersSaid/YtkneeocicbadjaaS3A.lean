/- walks: chapter 3, the same of both -/
import Derived.Test.YtkneeocicbadjaaKnC
import Derived.Test.YtkneeocicbadjaaPnE
namespace Go.Proofs.Ytkneeocicbadjaa
open Go.RowKit
set_option maxHeartbeats 4000000 in
set_option maxRecDepth 100000 in
theorem same3_any (s : ByteArray) (hs : s.size ≤ 140737488351232) (I : List UInt8) (hI : I.length = 4) (w : World) :
    Calls Try.prog 38 #[.string s, idV I] w fun e w' => e = .returned (.bool true) ∧ Below w.heap.size w w' := by
  obtain ⟨cs, hcs⟩ : ∃ cs, cs = (Lib.byteCells I).toArray := ⟨_, rfl⟩
  have hv : idV I = .agg cs := by rw [hcs]; rfl
  have A1 : Hid (Bk (w.alloc (.cells cs 47)) w.heap.size 47 (Lib.byteCells I).toArray) := by rw [← hcs]; exact Lib.hid (Bk.new rfl _ _)
  have bw : Below w.heap.size w (w.alloc (.cells cs 47)) := (Below.refl _ _).alloc (Nat.le_refl _) _
  have bz : w.heap.size + 1 ≤ (w.alloc (.cells cs 47)).heap.size := by simp
  have HI := Lib.hid hI
  have PN := Lib.hid (pin_any s I hI)
  have RN := Lib.hid (refNormal_any s hs)
  have RS := Lib.hid (rsalt_any I hI)
  rw [hv]
  clear hv hcs hI hs
  go_enter Try.func38, Try.ntmps38
  go_wp2_with ((with_reducible refine at_any ?_ ?_); (focus go_simp); (refine fun K hK => wp_ldi _ _ I rfl rfl HI.out A1.out (hK _ _ ?_)))
  obtain ⟨w1, hw1⟩ : ∃ w1, w1 = w.alloc (.cells cs 47) := ⟨_, rfl⟩
  rw [← hw1] at A1 bw bz ⊢
  clear hw1
  refine (PN.out _).mono ?_
  rintro e w2 ⟨rfl, x2⟩
  have A2 := A1.out.ext x2
  have bw2 : Below w.heap.size w w2 := bw.trans (x2.mono bw.size)
  have x3 : Ex w2 (w2.alloc (.cells zero16 24)) := (Below.refl _ _).alloc (Nat.le_refl _) _
  have A3 := Lib.hid (A2.ext x3)
  have bw3 : Below w.heap.size w (w2.alloc (.cells zero16 24)) := bw2.trans (x3.mono bw2.size)
  have la : w.heap.size < w2.heap.size := by have := x2.size; omega
  have bz2 := bw2.size
  clear A1 A2 bw x2 x3 bw2 bz PN
  cases hn : nrm (signs s) with
  | none =>
    have e0 : pinL s I = zeroL ∧ pinE s = 23 ∧ nrmV (signs s) = .tuple #[.string ⟨#[]⟩, .bool false] := by unfold pinL pinE nrmV; rw [hn]; exact ⟨rfl, rfl, rfl⟩
    rw [e0.1, e0.2.1]
    rw [e0.2.2] at RN
    clear e0 hn
    go_wp2_with ((with_reducible refine at_any ?_ ?_); (focus go_simp); (refine fun K hK => wp_st _ _ w2.heap.size zeroL rfl rfl rfl rfl (Bk.new rfl _ _) rfl (fun w8 hd ho => hK _ _ ?_)))
    have bw8 := ho.below _ bz2 _ bw3
    have HC := Lib.hid hd
    clear hd ho A3 bw3 hK
    refine (RN.out _).mono ?_
    rintro e w9 ⟨rfl, x9⟩
    have bw9 : Below w.heap.size w w9 := bw8.trans (x9.mono bw8.size)
    have HC9 := Lib.hid (HC.out.ext x9)
    clear HC x9 bw8 RN
    go_wp2_with (first
      | ((with_reducible refine at_any ?_ ?_); (focus go_simp); (refine fun K hK => wp_ld _ _ zeroL rfl rfl HC9.out (hK _ _ ?_)))
      | ((with_reducible refine at_any ?_ ?_); (focus go_simp); (refine fun K hK => wp_eqd _ _ _ zeroL zeroL true rfl rfl rfl rfl rfl (decide_eq_true rfl) (hK _ _ ?_))))
    go_ret
    exact ⟨rfl, bw9⟩
  | some a =>
    have hl := nrm_len hn
    obtain ⟨sa, hsa⟩ : ∃ sa : ByteArray, sa = ⟨a.toArray⟩ := ⟨_, rfl⟩
    obtain ⟨S, hS⟩ : ∃ S, S = sumL I := ⟨_, rfl⟩
    obtain ⟨X, hX⟩ : ∃ X, X = digsL a S 16 := ⟨_, rfl⟩
    have HX := Lib.hid (show X.length = 16 by rw [hX]; exact digsL_len _ _ _)
    have hXl := HX.out
    have e0 : pinL s I = X ∧ pinE s = 0 ∧ nrmV (signs s) = .tuple #[.string sa, .bool true] := by rw [hX, hS, hsa]; unfold pinL pinE nrmV; rw [hn]; exact ⟨rfl, rfl, rfl⟩
    have DR : Hid (∀ W : World, Calls Try.prog 37 #[.string sa, digV S, .int .i64 16] W fun e w' => e = .returned (digV X) ∧ Below W.heap.size W w') := Lib.hid (fun W => by
      have h := rdigits_any ⟨a.toArray⟩ (by show a.toArray.size ≤ _; simp; omega) S (by rw [hS]; exact sumL_len _) 16 W
      rw [hX, hsa]; exact h)
    have SA := RS
    rw [← hS] at SA
    rw [e0.1, e0.2.1]
    rw [e0.2.2] at RN
    clear e0 hn hX hS hsa hl RS
    go_wp2_with ((with_reducible refine at_any ?_ ?_); (focus go_simp); (refine fun K hK => wp_st _ _ w2.heap.size X rfl rfl rfl HX.out (Bk.new rfl _ _) rfl (fun w8 hd ho => hK _ _ ?_)))
    obtain ⟨g, hg⟩ : ∃ g, g = w2.heap.size := ⟨_, rfl⟩
    have bw8 := ho.below _ bz2 _ bw3
    have HC := Lib.hid hd
    have HA := Lib.hid (ho.bk A3.out (by omega))
    rw [← hg] at HC ⊢
    clear hd ho A3 bw3 hK hg la bz2
    refine (RN.out _).mono ?_
    rintro e wr ⟨rfl, x9⟩
    have bw9 : Below w.heap.size w wr := bw8.trans (x9.mono bw8.size)
    have bz9 := bw9.size
    have HC := Lib.hid (HC.out.ext x9)
    have HA := Lib.hid (HA.out.ext x9)
    clear x9 bw8 RN
    go_wp2_with fail
    obtain ⟨T, hT⟩ : ∃ T : List As, T = [.is (.int .i64 0), .is (.bool true), .is (.bool true), .is (digV X), .is (.string sa), .is (idV I), .is (digV S), .is (digV X), .is (.bool true), .is (.bool true)] := ⟨_, rfl⟩
    refine wp_region_flow 10 (tabPhi T) (by kernel_rfl) rfl (by kernel_rfl) (by kernel_rfl) (by kernel_rfl) (tabPhi_stable T) (fitB_spec (by kernel_rfl)) ?_ ?_
    · intro i o hi ho
      have hi' : i = 0 ∨ i = 1 ∨ i = 2 ∨ i = 3 ∨ i = 4 ∨ i = 5 ∨ i = 6 ∨ i = 7 ∨ i = 8 ∨ i = 9 := by omega
      rcases hi' with rfl | rfl | rfl | rfl | rfl | rfl | rfl | rfl | rfl | rfl
      all_goals (simp only [List.getElem?_toArray, List.getElem?_cons_zero, List.getElem?_cons_succ, Option.some.injEq] at ho; subst ho; intro a w2 hx hsz hdep hout)
      · rw [if_pos (by rfl)]
        intro K hK
        have f := hout 6 (outB_spec (by kernel_rfl))
        exact wp_mv _ rfl (hK _ _ (Ex.refl _) (by rw [hT]; exact f))
      · rw [if_pos (by rfl)]
        intro K hK
        obtain ⟨v, hv, kv⟩ := hdep ⟨0, .data⟩ (by simp) rfl _ rfl
        have qv := kv _ rfl
        rw [hT] at hv
        obtain rfl : v = .int .i64 0 := hv
        clear hsz hdep hout kv
        go_simp
        exact hK _ _ (Ex.refl _) (by rw [hT]; rfl)
      · rw [if_pos (by rfl)]
        intro K hK
        obtain ⟨v, hv, kv⟩ := hdep ⟨1, .data⟩ (by simp) rfl _ rfl
        have qv := kv _ rfl
        rw [hT] at hv
        obtain rfl : v = .bool true := hv
        exact wp_mv _ rfl (hK _ _ (Ex.refl _) (by rw [hT]; exact qv))
      · obtain ⟨vg, hvg, kg⟩ := hdep ⟨2, .guard⟩ (by simp) rfl _ rfl
        rw [hT] at hvg
        obtain rfl : vg = .bool true := hvg
        rw [if_pos (wanted_of rfl rfl rfl (kg _ rfl))]
        intro K hK
        have f := hout 5 (outB_spec (by kernel_rfl))
        exact wp_ld _ g X rfl f (HC.out.ext (Ex.trans (show Ex wr wr.drew from (Below.refl _ _).drew) hx)) (hK _ _ (Ex.refl _) (by rw [hT]; rfl))
      · obtain ⟨vg, hvg, kg⟩ := hdep ⟨2, .guard⟩ (by simp) rfl _ rfl
        rw [hT] at hvg
        obtain rfl : vg = .bool true := hvg
        rw [if_pos (wanted_of rfl rfl rfl (kg _ rfl))]
        intro K hK
        have f := hout 7 (outB_spec (by kernel_rfl))
        exact wp_mv _ rfl (hK _ _ (Ex.refl _) (by rw [hT]; exact f))
      · obtain ⟨vg, hvg, kg⟩ := hdep ⟨2, .guard⟩ (by simp) rfl _ rfl
        rw [hT] at hvg
        obtain rfl : vg = .bool true := hvg
        rw [if_pos (wanted_of rfl rfl rfl (kg _ rfl))]
        intro K hK
        have f := hout 3 (outB_spec (by kernel_rfl))
        exact wp_ldi _ w.heap.size I rfl f HI.out (HA.out.ext (Ex.trans (show Ex wr wr.drew from (Below.refl _ _).drew) hx)) (hK _ _ (Ex.refl _) (by rw [hT]; rfl))
      · obtain ⟨vg, hvg, kg⟩ := hdep ⟨2, .guard⟩ (by simp) rfl _ rfl
        rw [hT] at hvg
        obtain rfl : vg = .bool true := hvg
        rw [if_pos (wanted_of rfl rfl rfl (kg _ rfl))]
        intro K hK
        obtain ⟨v, hv, kv⟩ := hdep ⟨5, .data⟩ (by simp) rfl _ rfl
        have qv := kv _ rfl
        rw [hT] at hv
        obtain rfl : v = idV I := hv
        go_simp
        refine (SA.out w2).mono ?_
        rintro e w3 ⟨rfl, hex⟩
        exact hK _ _ hex (by rw [hT]; rfl)
      · obtain ⟨vg, hvg, kg⟩ := hdep ⟨2, .guard⟩ (by simp) rfl _ rfl
        rw [hT] at hvg
        obtain rfl : vg = .bool true := hvg
        rw [if_pos (wanted_of rfl rfl rfl (kg _ rfl))]
        intro K hK
        obtain ⟨v, hv, kv⟩ := hdep ⟨4, .data⟩ (by simp) rfl _ rfl
        have qv := kv _ rfl
        rw [hT] at hv
        obtain rfl : v = .string sa := hv
        obtain ⟨u, hu, ku⟩ := hdep ⟨6, .data⟩ (by simp) rfl _ rfl
        have qu := ku _ rfl
        rw [hT] at hu
        obtain rfl : u = digV S := hu
        go_simp
        refine (DR.out w2).mono ?_
        rintro e w3 ⟨rfl, hex⟩
        exact hK _ _ hex (by rw [hT]; rfl)
      · obtain ⟨vg, hvg, kg⟩ := hdep ⟨2, .guard⟩ (by simp) rfl _ rfl
        rw [hT] at hvg
        obtain rfl : vg = .bool true := hvg
        rw [if_pos (wanted_of rfl rfl rfl (kg _ rfl))]
        intro K hK
        obtain ⟨v, hv, kv⟩ := hdep ⟨3, .data⟩ (by simp) rfl _ rfl
        have qv := kv _ rfl
        rw [hT] at hv
        obtain rfl : v = digV X := hv
        obtain ⟨u, hu, ku⟩ := hdep ⟨7, .data⟩ (by simp) rfl _ rfl
        have qu := ku _ rfl
        rw [hT] at hu
        obtain rfl : u = digV X := hu
        exact wp_eql_dig _ _ _ rfl X X hXl hXl qv qu (hK _ _ (Ex.refl _) (by rw [hT, decide_eq_true rfl]; rfl))
      · rw [if_pos (by rfl)]
        intro K hK
        obtain ⟨v, hv, kv⟩ := hdep ⟨2, .data⟩ (by simp) rfl _ rfl
        have qv := kv _ rfl
        rw [hT] at hv
        obtain rfl : v = .bool true := hv
        obtain ⟨u, hu, ku⟩ := hdep ⟨8, .data⟩ (by simp) rfl _ rfl
        have qu := ku _ rfl
        rw [hT] at hu
        obtain rfl : u = .bool true := hu
        clear hsz hdep hout
        go_simp
        exact hK _ _ (Ex.refl _) (by rw [hT]; rfl)
    · intro a w2 hx hdef hsz hdone hout
      obtain ⟨v, hv, kv⟩ := hdone 9 _ (by omega) rfl
      have qv := kv _ rfl
      rw [hT] at hv
      obtain rfl : v = .bool true := hv
      clear hdone kv hT
      have hA := arr_range a.tmps 39 hsz
      change a.tmps = #[a.tmps[0]?.getD undef, a.tmps[1]?.getD undef, a.tmps[2]?.getD undef, a.tmps[3]?.getD undef, a.tmps[4]?.getD undef, a.tmps[5]?.getD undef, a.tmps[6]?.getD undef, a.tmps[7]?.getD undef, a.tmps[8]?.getD undef, a.tmps[9]?.getD undef, a.tmps[10]?.getD undef, a.tmps[11]?.getD undef, a.tmps[12]?.getD undef, a.tmps[13]?.getD undef, a.tmps[14]?.getD undef, a.tmps[15]?.getD undef, a.tmps[16]?.getD undef, a.tmps[17]?.getD undef, a.tmps[18]?.getD undef, a.tmps[19]?.getD undef, a.tmps[20]?.getD undef, a.tmps[21]?.getD undef, a.tmps[22]?.getD undef, a.tmps[23]?.getD undef, a.tmps[24]?.getD undef, a.tmps[25]?.getD undef, a.tmps[26]?.getD undef, a.tmps[27]?.getD undef, a.tmps[28]?.getD undef, a.tmps[29]?.getD undef, a.tmps[30]?.getD undef, a.tmps[31]?.getD undef, a.tmps[32]?.getD undef, a.tmps[33]?.getD undef, a.tmps[34]?.getD undef, a.tmps[35]?.getD undef, a.tmps[36]?.getD undef, a.tmps[37]?.getD undef, a.tmps[38]?.getD undef] at hA
      have e0 := hout 0 (fun i o _ h => outB_spec (by kernel_rfl) i o h)
      have e1 := hout 1 (fun i o _ h => outB_spec (by kernel_rfl) i o h)
      have e2 := hout 2 (fun i o _ h => outB_spec (by kernel_rfl) i o h)
      have e3 := hout 3 (fun i o _ h => outB_spec (by kernel_rfl) i o h)
      have e5 := hout 5 (fun i o _ h => outB_spec (by kernel_rfl) i o h)
      have e6 := hout 6 (fun i o _ h => outB_spec (by kernel_rfl) i o h)
      have e7 := hout 7 (fun i o _ h => outB_spec (by kernel_rfl) i o h)
      have e8 := hout 8 (fun i o _ h => outB_spec (by kernel_rfl) i o h)
      have e9 := hout 9 (fun i o _ h => outB_spec (by kernel_rfl) i o h)
      have e10 := hout 10 (fun i o _ h => outB_spec (by kernel_rfl) i o h)
      have e11 := hout 11 (fun i o _ h => outB_spec (by kernel_rfl) i o h)
      have e12 := hout 12 (fun i o _ h => outB_spec (by kernel_rfl) i o h)
      have e13 := hout 13 (fun i o _ h => outB_spec (by kernel_rfl) i o h)
      have e14 := hout 14 (fun i o _ h => outB_spec (by kernel_rfl) i o h)
      have e15 := hout 15 (fun i o _ h => outB_spec (by kernel_rfl) i o h)
      have e16 := hout 16 (fun i o _ h => outB_spec (by kernel_rfl) i o h)
      have e17 := hout 17 (fun i o _ h => outB_spec (by kernel_rfl) i o h)
      have e18 := hout 18 (fun i o _ h => outB_spec (by kernel_rfl) i o h)
      have e19 := hout 19 (fun i o _ h => outB_spec (by kernel_rfl) i o h)
      have e20 := hout 20 (fun i o _ h => outB_spec (by kernel_rfl) i o h)
      have e21 := hout 21 (fun i o _ h => outB_spec (by kernel_rfl) i o h)
      have e22 := hout 22 (fun i o _ h => outB_spec (by kernel_rfl) i o h)
      have e23 := hout 23 (fun i o _ h => outB_spec (by kernel_rfl) i o h)
      have e24 := hout 24 (fun i o _ h => outB_spec (by kernel_rfl) i o h)
      have e25 := hout 25 (fun i o _ h => outB_spec (by kernel_rfl) i o h)
      have e26 := hout 26 (fun i o _ h => outB_spec (by kernel_rfl) i o h)
      have e27 := hout 27 (fun i o _ h => outB_spec (by kernel_rfl) i o h)
      have e28 := hout 28 (fun i o _ h => outB_spec (by kernel_rfl) i o h)
      simp only [Array.getD_eq_getD_getElem?, List.getElem?_toArray, List.getElem?_cons_zero, List.getElem?_cons_succ, Option.getD_some] at e0 e1 e2 e3 e5 e6 e7 e8 e9 e10 e11 e12 e13 e14 e15 e16 e17 e18 e19 e20 e21 e22 e23 e24 e25 e26 e27 e28
      rw [e0, e1, e2, e3, e5, e6, e7, e8, e9, e10, e11, e12, e13, e14, e15, e16, e17, e18, e19, e20, e21, e22, e23, e24, e25, e26, e27, e28] at hA
      clear e0 e1 e2 e3 e5 e6 e7 e8 e9 e10 e11 e12 e13 e14 e15 e16 e17 e18 e19 e20 e21 e22 e23 e24 e25 e26 e27 e28 hout
      have hds2 : a.defers = [] := hdef
      have ea : a = ⟨a.tmps, a.defers⟩ := rfl
      have s38 : a.tmps[38]?.getD undef = .bool true := by simpa [Array.getD_eq_getD_getElem?] using qv
      rw [hA, hds2, s38] at ea
      clear hA hds2 s38 qv hdef
      generalize a.tmps[29]?.getD undef = y29 at ea
      generalize a.tmps[30]?.getD undef = y30 at ea
      generalize a.tmps[31]?.getD undef = y31 at ea
      generalize a.tmps[32]?.getD undef = y32 at ea
      generalize a.tmps[33]?.getD undef = y33 at ea
      generalize a.tmps[34]?.getD undef = y34 at ea
      generalize a.tmps[35]?.getD undef = y35 at ea
      generalize a.tmps[36]?.getD undef = y36 at ea
      generalize a.tmps[37]?.getD undef = y37 at ea
      generalize a.tmps[4]?.getD undef = y4 at ea
      clear hsz
      subst ea
      have bx : Below wr.heap.size wr w2 := Below.trans (Below.refl _ _).drew hx
      unfold wpOp
      simp only [List.getElem?_toArray, List.getElem?_cons_zero, List.getElem?_cons_succ]
      rw [if_pos (by rfl)]
      left
      have bw10 := bw9.trans (bx.mono bz9)
      go_simp
      go_wp2_with fail
      go_ret
      exact ⟨rfl, bw10⟩
end Go.Proofs.Ytkneeocicbadjaa
