/- walks: StretchTells -/
import Derived.Test.YtkneeocicbadjaaS3A
import Derived.Test.YtkneeocicbadjaaBlK
namespace Go.Proofs.Ytkneeocicbadjaa
open Go.RowKit
set_option maxHeartbeats 2000000 in
set_option maxRecDepth 100000 in
theorem within_int (c lo hi : Int) (hc : -9223372036854775808 ≤ c ∧ c ≤ 9223372036854775807) (h0 : -1000000 ≤ lo) (h1 : lo ≤ hi) (h2 : hi ≤ 1000000) (w : World) :
    Calls Try.prog 31 #[.int .i64 c, .int .i64 lo, .int .i64 hi] w fun e w' => (∃ m : Int, e = .returned (.int .i64 m) ∧ lo ≤ m ∧ m ≤ hi) ∧ w' = w := by
  go_enter Try.func31, Try.ntmps31
  obtain ⟨n, hn⟩ : ∃ n, n = hi - lo + 1 := ⟨_, rfl⟩
  have n0 : 0 < n := by omega
  have m1 : c.tmod n < n := Int.tmod_lt_of_pos _ n0
  have m2 : -n < c.tmod n := by
    have h := Int.tmod_lt_of_pos (-c) n0
    rw [Int.neg_tmod] at h; omega
  have m3 := Int.emod_nonneg c (show n ≠ 0 by omega)
  have m4 := Int.emod_lt_of_pos c n0
  rw [hn] at m1 m2 m3 m4
  clear hn n0
  by_cases a1 : lo ≤ c
  · by_cases a2 : c ≤ hi
    · clear m1 m2 m3 m4
      go_wp2_with fail
      go_ret
      exact ⟨⟨c, rfl, a1, a2⟩, rfl⟩
    · go_wp2_with fail
      all_goals (go_ret; refine ⟨⟨_, rfl, ?_, ?_⟩, rfl⟩ <;> omega)
  · go_wp2_with fail
    all_goals (go_ret; refine ⟨⟨_, rfl, ?_, ?_⟩, rfl⟩ <;> omega)
set_option maxHeartbeats 4000000 in
set_option maxRecDepth 100000 in
theorem stells_any (s : ByteArray) (I : List UInt8) (hI : I.length = 4) (S : List UInt8) (hS : S.length = 16) (c : Int) (hc : -9223372036854775808 ≤ c ∧ c ≤ 9223372036854775807) (d : Int) (hd0 : 0 ≤ d) (hd1 : d < 4294967296) (w : World) :
    Calls Try.prog 9 #[.string s, idV I, digV S, .int .i64 c, .int .u32 d] w fun e w' => e = .returned (.bool true) ∧ Below w.heap.size w w' := by
  obtain ⟨cs, hcs⟩ : ∃ cs, cs = (Lib.byteCells I).toArray := ⟨_, rfl⟩
  obtain ⟨ds, hds⟩ : ∃ ds, ds = (Lib.byteCells S).toArray := ⟨_, rfl⟩
  have hv : idV I = .agg cs := by rw [hcs]; rfl
  have hv2 : digV S = .agg ds := by rw [hds]; rfl
  have x1 : Ex (w.alloc (.cells cs 47)) ((w.alloc (.cells cs 47)).alloc (.cells ds 24)) := (Below.refl _ _).alloc (Nat.le_refl _) _
  have HA : Hid (Bk ((w.alloc (.cells cs 47)).alloc (.cells ds 24)) w.heap.size 47 (Lib.byteCells I).toArray) := by rw [← hcs]; exact Lib.hid ((Bk.new (w := w) rfl _ cs).ext x1)
  have HB : Hid (DB ((w.alloc (.cells cs 47)).alloc (.cells ds 24)) (w.heap.size + 1) S) := by rw [hds]; exact Lib.hid (DB.new (by simp) hS)
  have bw : Below w.heap.size w ((w.alloc (.cells cs 47)).alloc (.cells ds 24)) := ((Below.refl _ _).alloc (Nat.le_refl _) _).alloc (by simp) _
  have bz : w.heap.size + 2 ≤ ((w.alloc (.cells cs 47)).alloc (.cells ds 24)).heap.size := by simp
  have HI := Lib.hid hI
  have HS := Lib.hid hS
  rw [hv, hv2]
  clear hv hv2 hcs hds hI hS x1
  go_enter Try.func9, Try.ntmps9
  go_wp2_with fail
  all_goals (
    obtain ⟨w1, hw1⟩ : ∃ w1, w1 = (w.alloc (.cells cs 47)).alloc (.cells ds 24) := ⟨_, rfl⟩
    rw [← hw1] at HA HB bw bz ⊢
    clear hw1
    first
      | (obtain ⟨s1, hs1⟩ : ∃ x, x = s.extract 0 40 := ⟨_, rfl⟩
         have HS1 : Hid (s1.size ≤ 40) := Lib.hid (by rw [hs1, ByteArray.size_extract]; omega)
         rw [← hs1]
         clear hs1)
      | (obtain ⟨s1, rfl⟩ : ∃ x, x = s := ⟨_, rfl⟩
         have HS1 : Hid (s1.size ≤ 40) := Lib.hid (by omega))
    have W1 := Lib.hid (within_int c (-1) 60 hc (by omega) (by omega) (by omega) w1)
    refine W1.out.mono ?_
    rintro e w2 ⟨⟨m, rfl, hm0, hm1⟩, rfl⟩
    clear W1
    go_wp2_with fail
    go_loop [12, 13] (fun d' t => ∃ (z : ByteArray) (x : Int), t = .string z ∧ d' = .int .u32 x ∧ 0 ≤ x ∧ (z.size : Int) + 8 * x ≤ 8000000) (fun d' _ => (intOf d').toNat)
    case atStart => exact ⟨⟨#[]⟩, d % 900000 + 1000, rfl, rfl, by omega, by show (0 : Int) + _ ≤ _; omega⟩
    case round =>
      obtain ⟨z, x, rfl, rfl, hx0, hzx⟩ := hrel
      by_cases hlt : 0 < x
      · have f1 := encode_size_le (48 + x % 10)
        go_wp2_with fail
        refine ⟨⟨_, _, rfl, rfl, by omega, by rw [ByteArray.size_append]; omega⟩, ?_⟩
        simp [intOf]; omega
      · obtain rfl : x = 0 := by omega
        have hzz : z.size ≤ 140737488351232 := by omega
        obtain ⟨L, hL⟩ : ∃ L, L = sumL I := ⟨_, rfl⟩
        have hLl : L.length = 16 := by rw [hL]; exact sumL_len _
        obtain ⟨X, hX⟩ : ∃ X, X = digsL s1.data.toList S (min (max m 0) 1024).toNat := ⟨_, rfl⟩
        have hXl : X.length = 16 := by rw [hX]; exact digsL_len _ _ _
        have hs1 := HS1.out
        have SM1 := Lib.hid (same3_any s1 (by omega) I HI.out)
        have SM2 := Lib.hid (same3_any z hzz I HI.out)
        have SA := Lib.hid (salt_any I HI.out)
        have RS := Lib.hid (rsalt_any I HI.out)
        rw [← hL] at SA RS
        have DG := Lib.hid (digits_any s1 (by omega) S HS.out m)
        have DR := Lib.hid (rdigits_any s1 (by omega) S HS.out m)
        rw [← hX] at DG DR
        have KN := Lib.hid known3_any
        generalize w2 = wr at *
        clear hL hX hzz hs1 hx0 hzx hm0 hm1 hd0 hd1 hc
        go_wp2_with fail
        obtain ⟨T, hT⟩ : ∃ T : List As, T = [.is (.string s1), .is (idV I), .is (.bool true), .is (.bool true), .is (.string z), .is (idV I), .is (.bool true), .is (.bool true), .is (.bool true), .is (idV I), .is (digV L), .is (idV I), .is (digV L), .is (.bool true), .is (.bool true), .is (.bool true), .is (.string s1), .is (digV S), .is (.int .i64 m), .is (digV X), .is (.string s1), .is (digV S), .is (.int .i64 m), .is (digV X), .is (.bool true), .is (.bool true), .is (.bool true), .is (.bool true), .is (.bool true)] := ⟨_, rfl⟩
        refine wp_region_flow 29 (tabPhi T) (by kernel_rfl) rfl (by kernel_rfl) (by kernel_rfl) (by kernel_rfl) (tabPhi_stable T) (fitB_spec (by kernel_rfl)) ?_ ?_
        · intro i o hi ho
          have hi' : i = 0 ∨ i = 1 ∨ i = 2 ∨ i = 3 ∨ i = 4 ∨ i = 5 ∨ i = 6 ∨ i = 7 ∨ i = 8 ∨ i = 9 ∨ i = 10 ∨ i = 11 ∨ i = 12 ∨ i = 13 ∨ i = 14 ∨ i = 15 ∨ i = 16 ∨ i = 17 ∨ i = 18 ∨ i = 19 ∨ i = 20 ∨ i = 21 ∨ i = 22 ∨ i = 23 ∨ i = 24 ∨ i = 25 ∨ i = 26 ∨ i = 27 ∨ i = 28 := by omega
          rcases hi' with rfl | rfl | rfl | rfl | rfl | rfl | rfl | rfl | rfl | rfl | rfl | rfl | rfl | rfl | rfl | rfl | rfl | rfl | rfl | rfl | rfl | rfl | rfl | rfl | rfl | rfl | rfl | rfl | rfl
          all_goals (simp only [List.getElem?_toArray, List.getElem?_cons_zero, List.getElem?_cons_succ, Option.some.injEq] at ho; subst ho; intro a w2 hx hsz hdep hout)
          · rw [if_pos (by rfl)]
            intro K hK
            have f := hout 0 (outB_spec (by kernel_rfl))
            exact wp_mv _ rfl (hK _ _ (Ex.refl _) (by rw [hT]; exact f))
          · rw [if_pos (by rfl)]
            intro K hK
            have f := hout 6 (outB_spec (by kernel_rfl))
            exact wp_ldi _ w.heap.size I rfl f HI.out (HA.out.ext (Ex.trans (show Ex wr wr.drew from (Below.refl _ _).drew) hx)) (hK _ _ (Ex.refl _) (by rw [hT]; rfl))
          · rw [if_pos (by rfl)]
            intro K hK
            obtain ⟨v, hv, kv⟩ := hdep ⟨0, .data⟩ (by simp) rfl _ rfl
            have qv := kv _ rfl
            rw [hT] at hv
            obtain rfl : v = .string s1 := hv
            obtain ⟨u, hu, ku⟩ := hdep ⟨1, .data⟩ (by simp) rfl _ rfl
            have qu := ku _ rfl
            rw [hT] at hu
            obtain rfl : u = idV I := hu
            go_simp
            refine (SM1.out w2).mono ?_
            rintro e w3 ⟨rfl, hex⟩
            exact hK _ _ hex (by rw [hT]; rfl)
          · rw [if_pos (by rfl)]
            intro K hK
            obtain ⟨v, hv, kv⟩ := hdep ⟨2, .data⟩ (by simp) rfl _ rfl
            have qv := kv _ rfl
            rw [hT] at hv
            obtain rfl : v = .bool true := hv
            exact wp_mv _ rfl (hK _ _ (Ex.refl _) (by rw [hT]; exact qv))
          · obtain ⟨vg, hvg, kg⟩ := hdep ⟨3, .guard⟩ (by simp) rfl _ rfl
            rw [hT] at hvg
            obtain rfl : vg = .bool true := hvg
            rw [if_pos (wanted_of rfl rfl rfl (kg _ rfl))]
            intro K hK
            have f := hout 13 (outB_spec (by kernel_rfl))
            exact wp_mv _ rfl (hK _ _ (Ex.refl _) (by rw [hT]; exact f))
          · obtain ⟨vg, hvg, kg⟩ := hdep ⟨3, .guard⟩ (by simp) rfl _ rfl
            rw [hT] at hvg
            obtain rfl : vg = .bool true := hvg
            rw [if_pos (wanted_of rfl rfl rfl (kg _ rfl))]
            intro K hK
            have f := hout 6 (outB_spec (by kernel_rfl))
            exact wp_ldi _ w.heap.size I rfl f HI.out (HA.out.ext (Ex.trans (show Ex wr wr.drew from (Below.refl _ _).drew) hx)) (hK _ _ (Ex.refl _) (by rw [hT]; rfl))
          · obtain ⟨vg, hvg, kg⟩ := hdep ⟨3, .guard⟩ (by simp) rfl _ rfl
            rw [hT] at hvg
            obtain rfl : vg = .bool true := hvg
            rw [if_pos (wanted_of rfl rfl rfl (kg _ rfl))]
            intro K hK
            obtain ⟨v, hv, kv⟩ := hdep ⟨4, .data⟩ (by simp) rfl _ rfl
            have qv := kv _ rfl
            rw [hT] at hv
            obtain rfl : v = .string z := hv
            obtain ⟨u, hu, ku⟩ := hdep ⟨5, .data⟩ (by simp) rfl _ rfl
            have qu := ku _ rfl
            rw [hT] at hu
            obtain rfl : u = idV I := hu
            go_simp
            refine (SM2.out w2).mono ?_
            rintro e w3 ⟨rfl, hex⟩
            exact hK _ _ hex (by rw [hT]; rfl)
          · rw [if_pos (by rfl)]
            intro K hK
            obtain ⟨v, hv, kv⟩ := hdep ⟨3, .data⟩ (by simp) rfl _ rfl
            have qv := kv _ rfl
            rw [hT] at hv
            obtain rfl : v = .bool true := hv
            obtain ⟨u, hu, ku⟩ := hdep ⟨6, .data⟩ (by simp) rfl _ rfl
            have qu := ku _ rfl
            rw [hT] at hu
            obtain rfl : u = .bool true := hu
            clear hsz hdep hout
            go_simp
            exact hK _ _ (Ex.refl _) (by rw [hT]; rfl)
          · rw [if_pos (by rfl)]
            intro K hK
            obtain ⟨v, hv, kv⟩ := hdep ⟨7, .data⟩ (by simp) rfl _ rfl
            have qv := kv _ rfl
            rw [hT] at hv
            obtain rfl : v = .bool true := hv
            exact wp_mv _ rfl (hK _ _ (Ex.refl _) (by rw [hT]; exact qv))
          · obtain ⟨vg, hvg, kg⟩ := hdep ⟨8, .guard⟩ (by simp) rfl _ rfl
            rw [hT] at hvg
            obtain rfl : vg = .bool true := hvg
            rw [if_pos (wanted_of rfl rfl rfl (kg _ rfl))]
            intro K hK
            have f := hout 6 (outB_spec (by kernel_rfl))
            exact wp_ldi _ w.heap.size I rfl f HI.out (HA.out.ext (Ex.trans (show Ex wr wr.drew from (Below.refl _ _).drew) hx)) (hK _ _ (Ex.refl _) (by rw [hT]; rfl))
          · obtain ⟨vg, hvg, kg⟩ := hdep ⟨8, .guard⟩ (by simp) rfl _ rfl
            rw [hT] at hvg
            obtain rfl : vg = .bool true := hvg
            rw [if_pos (wanted_of rfl rfl rfl (kg _ rfl))]
            intro K hK
            obtain ⟨v, hv, kv⟩ := hdep ⟨9, .data⟩ (by simp) rfl _ rfl
            have qv := kv _ rfl
            rw [hT] at hv
            obtain rfl : v = idV I := hv
            go_simp
            refine (SA.out w2).mono ?_
            rintro e w3 ⟨rfl, hex⟩
            exact hK _ _ hex (by rw [hT]; rfl)
          · obtain ⟨vg, hvg, kg⟩ := hdep ⟨8, .guard⟩ (by simp) rfl _ rfl
            rw [hT] at hvg
            obtain rfl : vg = .bool true := hvg
            rw [if_pos (wanted_of rfl rfl rfl (kg _ rfl))]
            intro K hK
            have f := hout 6 (outB_spec (by kernel_rfl))
            exact wp_ldi _ w.heap.size I rfl f HI.out (HA.out.ext (Ex.trans (show Ex wr wr.drew from (Below.refl _ _).drew) hx)) (hK _ _ (Ex.refl _) (by rw [hT]; rfl))
          · obtain ⟨vg, hvg, kg⟩ := hdep ⟨8, .guard⟩ (by simp) rfl _ rfl
            rw [hT] at hvg
            obtain rfl : vg = .bool true := hvg
            rw [if_pos (wanted_of rfl rfl rfl (kg _ rfl))]
            intro K hK
            obtain ⟨v, hv, kv⟩ := hdep ⟨11, .data⟩ (by simp) rfl _ rfl
            have qv := kv _ rfl
            rw [hT] at hv
            obtain rfl : v = idV I := hv
            go_simp
            refine (RS.out w2).mono ?_
            rintro e w3 ⟨rfl, hex⟩
            exact hK _ _ hex (by rw [hT]; rfl)
          · obtain ⟨vg, hvg, kg⟩ := hdep ⟨8, .guard⟩ (by simp) rfl _ rfl
            rw [hT] at hvg
            obtain rfl : vg = .bool true := hvg
            rw [if_pos (wanted_of rfl rfl rfl (kg _ rfl))]
            intro K hK
            obtain ⟨v, hv, kv⟩ := hdep ⟨10, .data⟩ (by simp) rfl _ rfl
            have qv := kv _ rfl
            rw [hT] at hv
            obtain rfl : v = digV L := hv
            obtain ⟨u, hu, ku⟩ := hdep ⟨12, .data⟩ (by simp) rfl _ rfl
            have qu := ku _ rfl
            rw [hT] at hu
            obtain rfl : u = digV L := hu
            exact wp_eql_dig _ _ _ rfl L L hLl hLl qv qu (hK _ _ (Ex.refl _) (by rw [hT, decide_eq_true rfl]; rfl))
          · rw [if_pos (by rfl)]
            intro K hK
            obtain ⟨v, hv, kv⟩ := hdep ⟨8, .data⟩ (by simp) rfl _ rfl
            have qv := kv _ rfl
            rw [hT] at hv
            obtain rfl : v = .bool true := hv
            obtain ⟨u, hu, ku⟩ := hdep ⟨13, .data⟩ (by simp) rfl _ rfl
            have qu := ku _ rfl
            rw [hT] at hu
            obtain rfl : u = .bool true := hu
            clear hsz hdep hout
            go_simp
            exact hK _ _ (Ex.refl _) (by rw [hT]; rfl)
          · rw [if_pos (by rfl)]
            intro K hK
            obtain ⟨v, hv, kv⟩ := hdep ⟨14, .data⟩ (by simp) rfl _ rfl
            have qv := kv _ rfl
            rw [hT] at hv
            obtain rfl : v = .bool true := hv
            exact wp_mv _ rfl (hK _ _ (Ex.refl _) (by rw [hT]; exact qv))
          · obtain ⟨vg, hvg, kg⟩ := hdep ⟨15, .guard⟩ (by simp) rfl _ rfl
            rw [hT] at hvg
            obtain rfl : vg = .bool true := hvg
            rw [if_pos (wanted_of rfl rfl rfl (kg _ rfl))]
            intro K hK
            have f := hout 0 (outB_spec (by kernel_rfl))
            exact wp_mv _ rfl (hK _ _ (Ex.refl _) (by rw [hT]; exact f))
          · obtain ⟨vg, hvg, kg⟩ := hdep ⟨15, .guard⟩ (by simp) rfl _ rfl
            rw [hT] at hvg
            obtain rfl : vg = .bool true := hvg
            rw [if_pos (wanted_of rfl rfl rfl (kg _ rfl))]
            intro K hK
            have f := hout 7 (outB_spec (by kernel_rfl))
            exact wp_ld _ (w.heap.size + 1) S rfl f (HB.out.ext (Ex.trans (show Ex wr wr.drew from (Below.refl _ _).drew) hx)) (hK _ _ (Ex.refl _) (by rw [hT]; rfl))
          · obtain ⟨vg, hvg, kg⟩ := hdep ⟨15, .guard⟩ (by simp) rfl _ rfl
            rw [hT] at hvg
            obtain rfl : vg = .bool true := hvg
            rw [if_pos (wanted_of rfl rfl rfl (kg _ rfl))]
            intro K hK
            have f := hout 11 (outB_spec (by kernel_rfl))
            exact wp_mv _ rfl (hK _ _ (Ex.refl _) (by rw [hT]; exact f))
          · obtain ⟨vg, hvg, kg⟩ := hdep ⟨15, .guard⟩ (by simp) rfl _ rfl
            rw [hT] at hvg
            obtain rfl : vg = .bool true := hvg
            rw [if_pos (wanted_of rfl rfl rfl (kg _ rfl))]
            intro K hK
            obtain ⟨v, hv, kv⟩ := hdep ⟨16, .data⟩ (by simp) rfl _ rfl
            have qv := kv _ rfl
            rw [hT] at hv
            obtain rfl : v = .string s1 := hv
            obtain ⟨u, hu, ku⟩ := hdep ⟨17, .data⟩ (by simp) rfl _ rfl
            have qu := ku _ rfl
            rw [hT] at hu
            obtain rfl : u = digV S := hu
            obtain ⟨x, hx, kx⟩ := hdep ⟨18, .data⟩ (by simp) rfl _ rfl
            have qx := kx _ rfl
            rw [hT] at hx
            obtain rfl : x = .int .i64 m := hx
            go_simp
            refine (DG.out w2).mono ?_
            rintro e w3 ⟨rfl, hex⟩
            exact hK _ _ hex (by rw [hT]; rfl)
          · obtain ⟨vg, hvg, kg⟩ := hdep ⟨15, .guard⟩ (by simp) rfl _ rfl
            rw [hT] at hvg
            obtain rfl : vg = .bool true := hvg
            rw [if_pos (wanted_of rfl rfl rfl (kg _ rfl))]
            intro K hK
            have f := hout 0 (outB_spec (by kernel_rfl))
            exact wp_mv _ rfl (hK _ _ (Ex.refl _) (by rw [hT]; exact f))
          · obtain ⟨vg, hvg, kg⟩ := hdep ⟨15, .guard⟩ (by simp) rfl _ rfl
            rw [hT] at hvg
            obtain rfl : vg = .bool true := hvg
            rw [if_pos (wanted_of rfl rfl rfl (kg _ rfl))]
            intro K hK
            have f := hout 7 (outB_spec (by kernel_rfl))
            exact wp_ld _ (w.heap.size + 1) S rfl f (HB.out.ext (Ex.trans (show Ex wr wr.drew from (Below.refl _ _).drew) hx)) (hK _ _ (Ex.refl _) (by rw [hT]; rfl))
          · obtain ⟨vg, hvg, kg⟩ := hdep ⟨15, .guard⟩ (by simp) rfl _ rfl
            rw [hT] at hvg
            obtain rfl : vg = .bool true := hvg
            rw [if_pos (wanted_of rfl rfl rfl (kg _ rfl))]
            intro K hK
            have f := hout 11 (outB_spec (by kernel_rfl))
            exact wp_mv _ rfl (hK _ _ (Ex.refl _) (by rw [hT]; exact f))
          · obtain ⟨vg, hvg, kg⟩ := hdep ⟨15, .guard⟩ (by simp) rfl _ rfl
            rw [hT] at hvg
            obtain rfl : vg = .bool true := hvg
            rw [if_pos (wanted_of rfl rfl rfl (kg _ rfl))]
            intro K hK
            obtain ⟨v, hv, kv⟩ := hdep ⟨20, .data⟩ (by simp) rfl _ rfl
            have qv := kv _ rfl
            rw [hT] at hv
            obtain rfl : v = .string s1 := hv
            obtain ⟨u, hu, ku⟩ := hdep ⟨21, .data⟩ (by simp) rfl _ rfl
            have qu := ku _ rfl
            rw [hT] at hu
            obtain rfl : u = digV S := hu
            obtain ⟨x, hx, kx⟩ := hdep ⟨22, .data⟩ (by simp) rfl _ rfl
            have qx := kx _ rfl
            rw [hT] at hx
            obtain rfl : x = .int .i64 m := hx
            go_simp
            refine (DR.out w2).mono ?_
            rintro e w3 ⟨rfl, hex⟩
            exact hK _ _ hex (by rw [hT]; rfl)
          · obtain ⟨vg, hvg, kg⟩ := hdep ⟨15, .guard⟩ (by simp) rfl _ rfl
            rw [hT] at hvg
            obtain rfl : vg = .bool true := hvg
            rw [if_pos (wanted_of rfl rfl rfl (kg _ rfl))]
            intro K hK
            obtain ⟨v, hv, kv⟩ := hdep ⟨19, .data⟩ (by simp) rfl _ rfl
            have qv := kv _ rfl
            rw [hT] at hv
            obtain rfl : v = digV X := hv
            obtain ⟨u, hu, ku⟩ := hdep ⟨23, .data⟩ (by simp) rfl _ rfl
            have qu := ku _ rfl
            rw [hT] at hu
            obtain rfl : u = digV X := hu
            exact wp_eql_dig _ _ _ rfl X X hXl hXl qv qu (hK _ _ (Ex.refl _) (by rw [hT, decide_eq_true rfl]; rfl))
          · rw [if_pos (by rfl)]
            intro K hK
            obtain ⟨v, hv, kv⟩ := hdep ⟨15, .data⟩ (by simp) rfl _ rfl
            have qv := kv _ rfl
            rw [hT] at hv
            obtain rfl : v = .bool true := hv
            obtain ⟨u, hu, ku⟩ := hdep ⟨24, .data⟩ (by simp) rfl _ rfl
            have qu := ku _ rfl
            rw [hT] at hu
            obtain rfl : u = .bool true := hu
            clear hsz hdep hout
            go_simp
            exact hK _ _ (Ex.refl _) (by rw [hT]; rfl)
          · rw [if_pos (by rfl)]
            intro K hK
            obtain ⟨v, hv, kv⟩ := hdep ⟨25, .data⟩ (by simp) rfl _ rfl
            have qv := kv _ rfl
            rw [hT] at hv
            obtain rfl : v = .bool true := hv
            exact wp_mv _ rfl (hK _ _ (Ex.refl _) (by rw [hT]; exact qv))
          · obtain ⟨vg, hvg, kg⟩ := hdep ⟨26, .guard⟩ (by simp) rfl _ rfl
            rw [hT] at hvg
            obtain rfl : vg = .bool true := hvg
            rw [if_pos (wanted_of rfl rfl rfl (kg _ rfl))]
            intro K hK
            go_simp
            refine (KN.out w2).mono ?_
            rintro e w3 ⟨rfl, hex⟩
            exact hK _ _ hex (by rw [hT]; rfl)
          · rw [if_pos (by rfl)]
            intro K hK
            obtain ⟨v, hv, kv⟩ := hdep ⟨26, .data⟩ (by simp) rfl _ rfl
            have qv := kv _ rfl
            rw [hT] at hv
            obtain rfl : v = .bool true := hv
            obtain ⟨u, hu, ku⟩ := hdep ⟨27, .data⟩ (by simp) rfl _ rfl
            have qu := ku _ rfl
            rw [hT] at hu
            obtain rfl : u = .bool true := hu
            clear hsz hdep hout
            go_simp
            exact hK _ _ (Ex.refl _) (by rw [hT]; rfl)
        · intro a w2 hx hdef hsz hdone hout
          obtain ⟨v, hv, kv⟩ := hdone 28 _ (by omega) rfl
          have qv := kv _ rfl
          rw [hT] at hv
          obtain rfl : v = .bool true := hv
          clear hdone kv hT
          have hA := arr_range a.tmps 64 hsz
          change a.tmps = #[a.tmps[0]?.getD undef, a.tmps[1]?.getD undef, a.tmps[2]?.getD undef, a.tmps[3]?.getD undef, a.tmps[4]?.getD undef, a.tmps[5]?.getD undef, a.tmps[6]?.getD undef, a.tmps[7]?.getD undef, a.tmps[8]?.getD undef, a.tmps[9]?.getD undef, a.tmps[10]?.getD undef, a.tmps[11]?.getD undef, a.tmps[12]?.getD undef, a.tmps[13]?.getD undef, a.tmps[14]?.getD undef, a.tmps[15]?.getD undef, a.tmps[16]?.getD undef, a.tmps[17]?.getD undef, a.tmps[18]?.getD undef, a.tmps[19]?.getD undef, a.tmps[20]?.getD undef, a.tmps[21]?.getD undef, a.tmps[22]?.getD undef, a.tmps[23]?.getD undef, a.tmps[24]?.getD undef, a.tmps[25]?.getD undef, a.tmps[26]?.getD undef, a.tmps[27]?.getD undef, a.tmps[28]?.getD undef, a.tmps[29]?.getD undef, a.tmps[30]?.getD undef, a.tmps[31]?.getD undef, a.tmps[32]?.getD undef, a.tmps[33]?.getD undef, a.tmps[34]?.getD undef, a.tmps[35]?.getD undef, a.tmps[36]?.getD undef, a.tmps[37]?.getD undef, a.tmps[38]?.getD undef, a.tmps[39]?.getD undef, a.tmps[40]?.getD undef, a.tmps[41]?.getD undef, a.tmps[42]?.getD undef, a.tmps[43]?.getD undef, a.tmps[44]?.getD undef, a.tmps[45]?.getD undef, a.tmps[46]?.getD undef, a.tmps[47]?.getD undef, a.tmps[48]?.getD undef, a.tmps[49]?.getD undef, a.tmps[50]?.getD undef, a.tmps[51]?.getD undef, a.tmps[52]?.getD undef, a.tmps[53]?.getD undef, a.tmps[54]?.getD undef, a.tmps[55]?.getD undef, a.tmps[56]?.getD undef, a.tmps[57]?.getD undef, a.tmps[58]?.getD undef, a.tmps[59]?.getD undef, a.tmps[60]?.getD undef, a.tmps[61]?.getD undef, a.tmps[62]?.getD undef, a.tmps[63]?.getD undef] at hA
          have e0 := hout 0 (fun i o _ h => outB_spec (by kernel_rfl) i o h)
          have e1 := hout 1 (fun i o _ h => outB_spec (by kernel_rfl) i o h)
          have e2 := hout 2 (fun i o _ h => outB_spec (by kernel_rfl) i o h)
          have e3 := hout 3 (fun i o _ h => outB_spec (by kernel_rfl) i o h)
          have e4 := hout 4 (fun i o _ h => outB_spec (by kernel_rfl) i o h)
          have e5 := hout 5 (fun i o _ h => outB_spec (by kernel_rfl) i o h)
          have e6 := hout 6 (fun i o _ h => outB_spec (by kernel_rfl) i o h)
          have e7 := hout 7 (fun i o _ h => outB_spec (by kernel_rfl) i o h)
          have e8 := hout 8 (fun i o _ h => outB_spec (by kernel_rfl) i o h)
          have e9 := hout 9 (fun i o _ h => outB_spec (by kernel_rfl) i o h)
          have e11 := hout 11 (fun i o _ h => outB_spec (by kernel_rfl) i o h)
          have e12 := hout 12 (fun i o _ h => outB_spec (by kernel_rfl) i o h)
          have e13 := hout 13 (fun i o _ h => outB_spec (by kernel_rfl) i o h)
          have e14 := hout 14 (fun i o _ h => outB_spec (by kernel_rfl) i o h)
          have e15 := hout 15 (fun i o _ h => outB_spec (by kernel_rfl) i o h)
          have e16 := hout 16 (fun i o _ h => outB_spec (by kernel_rfl) i o h)
          have e17 := hout 17 (fun i o _ h => outB_spec (by kernel_rfl) i o h)
          have e18 := hout 18 (fun i o _ h => outB_spec (by kernel_rfl) i o h)
          have e19 := hout 19 (fun i o _ h => outB_spec (by kernel_rfl) i o h)
          have e20 := hout 20 (fun i o _ h => outB_spec (by kernel_rfl) i o h)
          have e21 := hout 21 (fun i o _ h => outB_spec (by kernel_rfl) i o h)
          have e22 := hout 22 (fun i o _ h => outB_spec (by kernel_rfl) i o h)
          have e23 := hout 23 (fun i o _ h => outB_spec (by kernel_rfl) i o h)
          have e24 := hout 24 (fun i o _ h => outB_spec (by kernel_rfl) i o h)
          have e25 := hout 25 (fun i o _ h => outB_spec (by kernel_rfl) i o h)
          have e26 := hout 26 (fun i o _ h => outB_spec (by kernel_rfl) i o h)
          have e27 := hout 27 (fun i o _ h => outB_spec (by kernel_rfl) i o h)
          have e28 := hout 28 (fun i o _ h => outB_spec (by kernel_rfl) i o h)
          have e29 := hout 29 (fun i o _ h => outB_spec (by kernel_rfl) i o h)
          have e30 := hout 30 (fun i o _ h => outB_spec (by kernel_rfl) i o h)
          have e31 := hout 31 (fun i o _ h => outB_spec (by kernel_rfl) i o h)
          have e32 := hout 32 (fun i o _ h => outB_spec (by kernel_rfl) i o h)
          have e33 := hout 33 (fun i o _ h => outB_spec (by kernel_rfl) i o h)
          have e34 := hout 34 (fun i o _ h => outB_spec (by kernel_rfl) i o h)
          simp only [Array.getD_eq_getD_getElem?, List.getElem?_toArray, List.getElem?_cons_zero, List.getElem?_cons_succ, Option.getD_some] at e0 e1 e2 e3 e4 e5 e6 e7 e8 e9 e11 e12 e13 e14 e15 e16 e17 e18 e19 e20 e21 e22 e23 e24 e25 e26 e27 e28 e29 e30 e31 e32 e33 e34
          rw [e0, e1, e2, e3, e4, e5, e6, e7, e8, e9, e11, e12, e13, e14, e15, e16, e17, e18, e19, e20, e21, e22, e23, e24, e25, e26, e27, e28, e29, e30, e31, e32, e33, e34] at hA
          clear e0 e1 e2 e3 e4 e5 e6 e7 e8 e9 e11 e12 e13 e14 e15 e16 e17 e18 e19 e20 e21 e22 e23 e24 e25 e26 e27 e28 e29 e30 e31 e32 e33 e34 hout
          have hds2 : a.defers = [] := hdef
          have ea : a = ⟨a.tmps, a.defers⟩ := rfl
          have s63 : a.tmps[63]?.getD undef = .bool true := by simpa [Array.getD_eq_getD_getElem?] using qv
          rw [hA, hds2, s63] at ea
          clear hA hds2 s63 qv hdef
          generalize a.tmps[35]?.getD undef = y35 at ea
          generalize a.tmps[36]?.getD undef = y36 at ea
          generalize a.tmps[37]?.getD undef = y37 at ea
          generalize a.tmps[38]?.getD undef = y38 at ea
          generalize a.tmps[39]?.getD undef = y39 at ea
          generalize a.tmps[40]?.getD undef = y40 at ea
          generalize a.tmps[41]?.getD undef = y41 at ea
          generalize a.tmps[42]?.getD undef = y42 at ea
          generalize a.tmps[43]?.getD undef = y43 at ea
          generalize a.tmps[44]?.getD undef = y44 at ea
          generalize a.tmps[45]?.getD undef = y45 at ea
          generalize a.tmps[46]?.getD undef = y46 at ea
          generalize a.tmps[47]?.getD undef = y47 at ea
          generalize a.tmps[48]?.getD undef = y48 at ea
          generalize a.tmps[49]?.getD undef = y49 at ea
          generalize a.tmps[50]?.getD undef = y50 at ea
          generalize a.tmps[51]?.getD undef = y51 at ea
          generalize a.tmps[52]?.getD undef = y52 at ea
          generalize a.tmps[53]?.getD undef = y53 at ea
          generalize a.tmps[54]?.getD undef = y54 at ea
          generalize a.tmps[55]?.getD undef = y55 at ea
          generalize a.tmps[56]?.getD undef = y56 at ea
          generalize a.tmps[57]?.getD undef = y57 at ea
          generalize a.tmps[58]?.getD undef = y58 at ea
          generalize a.tmps[59]?.getD undef = y59 at ea
          generalize a.tmps[60]?.getD undef = y60 at ea
          generalize a.tmps[61]?.getD undef = y61 at ea
          generalize a.tmps[62]?.getD undef = y62 at ea
          generalize a.tmps[10]?.getD undef = y10 at ea
          clear hsz
          subst ea
          have bx : Below wr.heap.size wr w2 := Below.trans (Below.refl _ _).drew hx
          unfold wpOp
          simp only [List.getElem?_toArray, List.getElem?_cons_zero, List.getElem?_cons_succ]
          rw [if_pos (by rfl)]
          left
          have bw10 := bw.trans (bx.mono bw.size)
          go_simp
          go_wp2_with fail
          go_ret
          exact ⟨rfl, bw10⟩)
theorem stretchTells_law (s : ByteArray) (v1 v2 : Value) (c d : Int) (w : World) (h0 : s.size ≤ maxLen) (h1 : ∃ l : List UInt8, l.length = 4 ∧ v1 = idV l) (h2 : ∃ l : List UInt8, l.length = 16 ∧ v2 = digV l) (h3 : (Lit.int .i64 c).wf = true) (h4 : (Lit.int .u32 d).wf = true) :
    Calls Try.prog 9 #[.string s, v1, v2, .int .i64 c, .int .u32 d] w fun e w' => e = .returned (.bool true) ∧ Below w.heap.size w w' := by
  obtain ⟨I, hI, rfl⟩ := h1
  obtain ⟨A, hA, rfl⟩ := h2
  have r3 : -9223372036854775808 ≤ c ∧ c ≤ 9223372036854775807 := by simp [Lit.wf, IntKind.min, IntKind.max, IntKind.signed, IntKind.bits] at h3; omega
  have r4 : 0 ≤ d ∧ d < 4294967296 := by simp [Lit.wf, IntKind.min, IntKind.max, IntKind.signed, IntKind.bits] at h4; omega
  exact stells_any s I hI A hA c r3 d r4.1 r4.2 w
end Go.Proofs.Ytkneeocicbadjaa
