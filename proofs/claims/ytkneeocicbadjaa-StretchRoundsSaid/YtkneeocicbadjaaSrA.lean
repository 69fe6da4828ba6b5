/- walks: StretchRounds -/
import Derived.Test.YtkneeocicbadjaaKnC
import Derived.Test.YtkneeocicbadjaaBlK
namespace Go.Proofs.Ytkneeocicbadjaa
open Go.RowKit
set_option maxHeartbeats 4000000 in
set_option maxRecDepth 100000 in
theorem srounds_any (s : ByteArray) (S : List UInt8) (hS : S.length = 16) (c : Int) (hc : -9223372036854775808 ≤ c ∧ c ≤ 9223372036854775807) (w : World) :
    Calls Try.prog 10 #[.string s, digV S, .int .i64 c] w fun e w' => e = .returned (.bool true) ∧ Below w.heap.size w w' := by
  obtain ⟨cs, hcs⟩ : ∃ cs, cs = (Lib.byteCells S).toArray := ⟨_, rfl⟩
  have hv : digV S = .agg cs := by rw [hcs]; rfl
  have A1 : Hid (DB (w.alloc (.cells cs 24)) w.heap.size S) := by rw [hcs]; exact Lib.hid (DB.new rfl hS)
  have bw : Below w.heap.size w (w.alloc (.cells cs 24)) := (Below.refl _ _).alloc (Nat.le_refl _) _
  have HS := Lib.hid hS
  rw [hv]
  clear hv hcs hS
  go_enter Try.func10, Try.ntmps10
  go_wp2_with fail
  generalize w.alloc (.cells cs 24) = w1 at A1 bw ⊢
  have W1 := Lib.hid (within_any c 0 40 hc (by omega) (by omega) (by omega) w1)
  refine W1.out.mono ?_
  rintro e w2 ⟨⟨m, rfl, hm0, hm1⟩, rfl⟩
  clear W1 hm0 hc
  go_wp2_with ((with_reducible refine at_any ?_ ?_); (focus go_simp); (refine fun K hK => wp_ld _ _ S rfl rfl A1.out (hK _ _ ?_)))
  all_goals (
    first
      | (obtain ⟨s1, hs1⟩ : ∃ x, x = s.extract 0 20 := ⟨_, rfl⟩
         have HS1 : Hid (s1.size ≤ 80000000000000) := Lib.hid (by rw [hs1, ByteArray.size_extract]; omega)
         rw [← hs1]
         clear hs1)
      | (obtain ⟨s1, rfl⟩ : ∃ x, x = s := ⟨_, rfl⟩
         have HS1 : Hid (s1.size ≤ 80000000000000) := Lib.hid (by omega))
    obtain ⟨L, hL⟩ : ∃ L, L = s1.data.toList := ⟨_, rfl⟩
    obtain ⟨X, hX⟩ : ∃ X, X = digsL L S m := ⟨_, rfl⟩
    obtain ⟨X1, hX1⟩ : ∃ X1, X1 = digsL L S (m + 1) := ⟨_, rfl⟩
    have HXX := Lib.hid (show sumL (X ++ S) = X1 by rw [hX1, hX]; rfl)
    have HX := Lib.hid (show X.length = 16 by rw [hX]; exact digsL_len _ _ _)
    have hX1l : X1.length = 16 := by rw [hX1]; exact digsL_len _ _ _
    have DG := Lib.hid (show ∀ W : World, Calls Try.prog 36 #[.string s1, digV S, .int .i64 m] W fun e w' => e = .returned (digV X) ∧ Below W.heap.size W w' from fun W => by
      have h := digits_any s1 HS1.out S HS.out m W
      rw [show (min (max (m : Int) 0) 1024).toNat = m by omega, ← hL, ← hX] at h
      exact h)
    have DG1 := Lib.hid (show ∀ W : World, Calls Try.prog 36 #[.string s1, digV S, .int .i64 ((m : Int) + 1)] W fun e w' => e = .returned (digV X1) ∧ Below W.heap.size W w' from fun W => by
      have h := digits_any s1 HS1.out S HS.out ((m : Int) + 1) W
      rw [show (min (max ((m : Int) + 1) 0) 1024).toNat = m + 1 by omega, ← hL, ← hX1] at h
      exact h)
    have TW := Lib.hid (show ∀ W : World, Calls Try.prog 25 #[digV X, digV S] W fun e w' => e = .returned (digV X1) ∧ Below W.heap.size W w' from fun W => by
      have h := rtwo_any X S HX.out HS.out W
      rw [HXX.out] at h
      exact h)
    have KN := Lib.hid known3_any
    clear hL hX hX1 HS1 HXX
    refine (DG.out _).mono ?_
    rintro e w3 ⟨rfl, x3⟩
    obtain ⟨g, hg⟩ : ∃ g, g = w3.heap.size := ⟨_, rfl⟩
    have A2 := A1.out.ext x3
    have la := A2.lt
    have bw3 : Below w.heap.size w w3 := bw.trans (x3.mono bw.size)
    have x4 : Ex w3 (w3.alloc (.cells zero16 24)) := (Below.refl _ _).alloc (Nat.le_refl _) _
    have A3 := Lib.hid (A2.ext x4)
    have bw4 : Below w.heap.size w (w3.alloc (.cells zero16 24)) := bw3.trans (x4.mono bw3.size)
    have hgz : w.heap.size < g := by omega
    have bz3 := bw3.size
    clear A1 A2 bw bw3 x3 x4 DG
    go_wp2_with ((with_reducible refine at_any ?_ ?_); (focus go_simp); (refine fun K hK => wp_st _ _ w3.heap.size X rfl rfl rfl HX.out (Bk.new rfl _ _) rfl (fun w8 hd ho => hK _ _ ?_)))
    have HC := Lib.hid hd
    have HA := Lib.hid (ho.db A3.out (by omega))
    have bw8 := ho.below _ bz3 _ bw4
    have bz8 := bw8.size
    rw [← hg] at HC ⊢
    clear A3 bw4 hd ho hK bz3 la hg
    generalize w8 = wr at *
    obtain ⟨T, hT⟩ : ∃ T : List As, T = [.is (.string s1), .is (digV S), .is (.int .i64 m), .is (.int .i64 ((m : Int) + 1)), .is (digV X1), .is (digV X), .is (digV S), .is (digV X1), .is (.bool true), .is (.bool true), .is (.bool true), .is (.bool true)] := ⟨_, rfl⟩
    refine wp_region_flow 12 (tabPhi T) (by kernel_rfl) rfl (by kernel_rfl) (by kernel_rfl) (by kernel_rfl) (tabPhi_stable T) (fitB_spec (by kernel_rfl)) ?_ ?_
    · intro i o hi ho
      have hi' : i = 0 ∨ i = 1 ∨ i = 2 ∨ i = 3 ∨ i = 4 ∨ i = 5 ∨ i = 6 ∨ i = 7 ∨ i = 8 ∨ i = 9 ∨ i = 10 ∨ i = 11 := by omega
      rcases hi' with rfl | rfl | rfl | rfl | rfl | rfl | rfl | rfl | rfl | rfl | rfl | rfl
      all_goals (simp only [List.getElem?_toArray, List.getElem?_cons_zero, List.getElem?_cons_succ, Option.some.injEq] at ho; subst ho; intro a w2 hx hsz hdep hout)
      · rw [if_pos (by rfl)]
        intro K hK
        have f := hout 0 (outB_spec (by kernel_rfl))
        exact wp_mv _ rfl (hK _ _ (Ex.refl _) (by rw [hT]; exact f))
      · rw [if_pos (by rfl)]
        intro K hK
        have f := hout 4 (outB_spec (by kernel_rfl))
        exact wp_ld _ w.heap.size S rfl f (HA.out.ext (Ex.trans (show Ex wr wr.drew from (Below.refl _ _).drew) hx)) (hK _ _ (Ex.refl _) (by rw [hT]; rfl))
      · rw [if_pos (by rfl)]
        intro K hK
        have f := hout 7 (outB_spec (by kernel_rfl))
        exact wp_mv _ rfl (hK _ _ (Ex.refl _) (by rw [hT]; exact f))
      · rw [if_pos (by rfl)]
        intro K hK
        obtain ⟨v, hv, kv⟩ := hdep ⟨2, .data⟩ (by simp) rfl _ rfl
        have qv := kv _ rfl
        rw [hT] at hv
        obtain rfl : v = .int .i64 m := hv
        clear hsz hdep hout kv
        go_simp
        exact hK _ _ (Ex.refl _) (by rw [hT]; show Value.int .i64 (IntKind.i64.wrap _) = _; rw [IntWalk.i64_in _ (by omega)])
      · rw [if_pos (by rfl)]
        intro K hK
        obtain ⟨v, hv, kv⟩ := hdep ⟨0, .data⟩ (by simp) rfl _ rfl
        have qv := kv _ rfl
        rw [hT] at hv
        obtain rfl : v = .string s1 := hv
        obtain ⟨u, hu, ku⟩ := hdep ⟨1, .data⟩ (by simp) rfl _ rfl
        have qu := ku _ rfl
        rw [hT] at hu
        obtain rfl : u = digV S := hu
        obtain ⟨x, hx, kx⟩ := hdep ⟨3, .data⟩ (by simp) rfl _ rfl
        have qx := kx _ rfl
        rw [hT] at hx
        obtain rfl : x = .int .i64 ((m : Int) + 1) := hx
        go_simp
        refine (DG1.out w2).mono ?_
        rintro e w3 ⟨rfl, hex⟩
        exact hK _ _ hex (by rw [hT]; rfl)
      · rw [if_pos (by rfl)]
        intro K hK
        have f := hout 8 (outB_spec (by kernel_rfl))
        exact wp_ld _ g X rfl f (HC.out.ext (Ex.trans (show Ex wr wr.drew from (Below.refl _ _).drew) hx)) (hK _ _ (Ex.refl _) (by rw [hT]; rfl))
      · rw [if_pos (by rfl)]
        intro K hK
        have f := hout 4 (outB_spec (by kernel_rfl))
        exact wp_ld _ w.heap.size S rfl f (HA.out.ext (Ex.trans (show Ex wr wr.drew from (Below.refl _ _).drew) hx)) (hK _ _ (Ex.refl _) (by rw [hT]; rfl))
      · rw [if_pos (by rfl)]
        intro K hK
        obtain ⟨v, hv, kv⟩ := hdep ⟨5, .data⟩ (by simp) rfl _ rfl
        have qv := kv _ rfl
        rw [hT] at hv
        obtain rfl : v = digV X := hv
        obtain ⟨u, hu, ku⟩ := hdep ⟨6, .data⟩ (by simp) rfl _ rfl
        have qu := ku _ rfl
        rw [hT] at hu
        obtain rfl : u = digV S := hu
        go_simp
        refine (TW.out w2).mono ?_
        rintro e w3 ⟨rfl, hex⟩
        exact hK _ _ hex (by rw [hT]; rfl)
      · rw [if_pos (by rfl)]
        intro K hK
        obtain ⟨v, hv, kv⟩ := hdep ⟨4, .data⟩ (by simp) rfl _ rfl
        have qv := kv _ rfl
        rw [hT] at hv
        obtain rfl : v = digV X1 := hv
        obtain ⟨u, hu, ku⟩ := hdep ⟨7, .data⟩ (by simp) rfl _ rfl
        have qu := ku _ rfl
        rw [hT] at hu
        obtain rfl : u = digV X1 := hu
        exact wp_eql_dig _ _ _ rfl X1 X1 hX1l hX1l qv qu (hK _ _ (Ex.refl _) (by rw [hT, decide_eq_true rfl]; rfl))
      · rw [if_pos (by rfl)]
        intro K hK
        obtain ⟨v, hv, kv⟩ := hdep ⟨8, .data⟩ (by simp) rfl _ rfl
        have qv := kv _ rfl
        rw [hT] at hv
        obtain rfl : v = .bool true := hv
        exact wp_mv _ rfl (hK _ _ (Ex.refl _) (by rw [hT]; exact qv))
      · obtain ⟨vg, hvg, kg⟩ := hdep ⟨9, .guard⟩ (by simp) rfl _ rfl
        rw [hT] at hvg
        obtain rfl : vg = .bool true := hvg
        rw [if_pos (wanted_of rfl rfl rfl (kg _ rfl))]
        intro K hK
        go_simp
        refine (KN.out w2).mono ?_
        rintro e w3 ⟨rfl, hex⟩
        exact hK _ _ hex (by rw [hT]; rfl)
      · rw [if_pos (by rfl)]
        intro K hK
        obtain ⟨v, hv, kv⟩ := hdep ⟨9, .data⟩ (by simp) rfl _ rfl
        have qv := kv _ rfl
        rw [hT] at hv
        obtain rfl : v = .bool true := hv
        obtain ⟨u, hu, ku⟩ := hdep ⟨10, .data⟩ (by simp) rfl _ rfl
        have qu := ku _ rfl
        rw [hT] at hu
        obtain rfl : u = .bool true := hu
        clear hsz hdep hout
        go_simp
        exact hK _ _ (Ex.refl _) (by rw [hT]; rfl)
    · intro a w2 hx hdef hsz hdone hout
      obtain ⟨v, hv, kv⟩ := hdone 11 _ (by omega) rfl
      have qv := kv _ rfl
      rw [hT] at hv
      obtain rfl : v = .bool true := hv
      clear hdone kv hT
      have hA := arr_range a.tmps 32 hsz
      change a.tmps = #[a.tmps[0]?.getD undef, a.tmps[1]?.getD undef, a.tmps[2]?.getD undef, a.tmps[3]?.getD undef, a.tmps[4]?.getD undef, a.tmps[5]?.getD undef, a.tmps[6]?.getD undef, a.tmps[7]?.getD undef, a.tmps[8]?.getD undef, a.tmps[9]?.getD undef, a.tmps[10]?.getD undef, a.tmps[11]?.getD undef, a.tmps[12]?.getD undef, a.tmps[13]?.getD undef, a.tmps[14]?.getD undef, a.tmps[15]?.getD undef, a.tmps[16]?.getD undef, a.tmps[17]?.getD undef, a.tmps[18]?.getD undef, a.tmps[19]?.getD undef, a.tmps[20]?.getD undef, a.tmps[21]?.getD undef, a.tmps[22]?.getD undef, a.tmps[23]?.getD undef, a.tmps[24]?.getD undef, a.tmps[25]?.getD undef, a.tmps[26]?.getD undef, a.tmps[27]?.getD undef, a.tmps[28]?.getD undef, a.tmps[29]?.getD undef, a.tmps[30]?.getD undef, a.tmps[31]?.getD undef] at hA
      have e0 := hout 0 (fun i o _ h => outB_spec (by kernel_rfl) i o h)
      have e1 := hout 1 (fun i o _ h => outB_spec (by kernel_rfl) i o h)
      have e2 := hout 2 (fun i o _ h => outB_spec (by kernel_rfl) i o h)
      have e3 := hout 3 (fun i o _ h => outB_spec (by kernel_rfl) i o h)
      have e4 := hout 4 (fun i o _ h => outB_spec (by kernel_rfl) i o h)
      have e5 := hout 5 (fun i o _ h => outB_spec (by kernel_rfl) i o h)
      have e7 := hout 7 (fun i o _ h => outB_spec (by kernel_rfl) i o h)
      have e8 := hout 8 (fun i o _ h => outB_spec (by kernel_rfl) i o h)
      have e9 := hout 9 (fun i o _ h => outB_spec (by kernel_rfl) i o h)
      have e10 := hout 10 (fun i o _ h => outB_spec (by kernel_rfl) i o h)
      have e11 := hout 11 (fun i o _ h => outB_spec (by kernel_rfl) i o h)
      have e12 := hout 12 (fun i o _ h => outB_spec (by kernel_rfl) i o h)
      have e13 := hout 13 (fun i o _ h => outB_spec (by kernel_rfl) i o h)
      have e14 := hout 14 (fun i o _ h => outB_spec (by kernel_rfl) i o h)
      have e15 := hout 15 (fun i o _ h => outB_spec (by kernel_rfl) i o h)
      have e16 := hout 16 (fun i o _ h => outB_spec (by kernel_rfl) i o h)
      have e17 := hout 17 (fun i o _ h => outB_spec (by kernel_rfl) i o h)
      have e18 := hout 18 (fun i o _ h => outB_spec (by kernel_rfl) i o h)
      have e19 := hout 19 (fun i o _ h => outB_spec (by kernel_rfl) i o h)
      simp only [Array.getD_eq_getD_getElem?, List.getElem?_toArray, List.getElem?_cons_zero, List.getElem?_cons_succ, Option.getD_some] at e0 e1 e2 e3 e4 e5 e7 e8 e9 e10 e11 e12 e13 e14 e15 e16 e17 e18 e19
      rw [e0, e1, e2, e3, e4, e5, e7, e8, e9, e10, e11, e12, e13, e14, e15, e16, e17, e18, e19] at hA
      clear e0 e1 e2 e3 e4 e5 e7 e8 e9 e10 e11 e12 e13 e14 e15 e16 e17 e18 e19 hout
      have hds2 : a.defers = [] := hdef
      have ea : a = ⟨a.tmps, a.defers⟩ := rfl
      have s31 : a.tmps[31]?.getD undef = .bool true := by simpa [Array.getD_eq_getD_getElem?] using qv
      rw [hA, hds2, s31] at ea
      clear hA hds2 s31 qv hdef
      generalize a.tmps[20]?.getD undef = y20 at ea
      generalize a.tmps[21]?.getD undef = y21 at ea
      generalize a.tmps[22]?.getD undef = y22 at ea
      generalize a.tmps[23]?.getD undef = y23 at ea
      generalize a.tmps[24]?.getD undef = y24 at ea
      generalize a.tmps[25]?.getD undef = y25 at ea
      generalize a.tmps[26]?.getD undef = y26 at ea
      generalize a.tmps[27]?.getD undef = y27 at ea
      generalize a.tmps[28]?.getD undef = y28 at ea
      generalize a.tmps[29]?.getD undef = y29 at ea
      generalize a.tmps[30]?.getD undef = y30 at ea
      generalize a.tmps[6]?.getD undef = y6 at ea
      clear hsz
      subst ea
      have bx : Below wr.heap.size wr w2 := Below.trans (Below.refl _ _).drew hx
      unfold wpOp
      simp only [List.getElem?_toArray, List.getElem?_cons_zero, List.getElem?_cons_succ]
      rw [if_pos (by rfl)]
      left
      have bw9 := bw8.trans (bx.mono bz8)
      go_simp
      go_wp2_with fail
      go_ret
      exact ⟨rfl, bw9⟩)
theorem stretchRounds_law (s : ByteArray) (v1 : Value) (c : Int) (w : World) (h0 : s.size ≤ maxLen) (h1 : ∃ l : List UInt8, l.length = 16 ∧ v1 = digV l) (h2 : (Lit.int .i64 c).wf = true) :
    Calls Try.prog 10 #[.string s, v1, .int .i64 c] w fun e w' => e = .returned (.bool true) ∧ Below w.heap.size w w' := by
  obtain ⟨A, hA, rfl⟩ := h1
  have r2 : -9223372036854775808 ≤ c ∧ c ≤ 9223372036854775807 := by simp [Lit.wf, IntKind.min, IntKind.max, IntKind.signed, IntKind.bits] at h2; omega
  exact srounds_any s A hA c r2 w
end Go.Proofs.Ytkneeocicbadjaa
