/- MEnA -/
import Derived.Test.YtopamplmpfndlaaEan
import Derived.Test.YtopamplmpfndlaaEaq
set_option maxRecDepth 100000
set_option maxHeartbeats 16000000
namespace Go.Proofs.Ytopamplmpfndlaa.Sm
open Go.RowKit
theorem beV_snoc (l : List UInt8) (x : UInt8) : beV (l ++ [x]) = beV l * 256 + x.toNat := by
 induction l with
 | nil => simp [beV]
 | cons y l ih =>
  simp only [List.cons_append, beV, ih, List.length_append, List.length_cons, List.length_nil, Nat.zero_add, Nat.pow_succ]
  rw [Nat.add_mul, Nat.mul_assoc, Nat.add_assoc]
theorem take_snoc (l : List UInt8) (j : Nat) (h : j < l.length) : l.take (j + 1) = l.take j ++ [l.getD j 0] := by
 rw [List.take_add_one]
 simp [List.getD, h]
theorem beV_step (l : List UInt8) (j : Nat) (h : j < l.length) : beV (l.take (j + 1)) = beV (l.take j) * 256 + (l.getD j 0).toNat := by
 rw [take_snoc l j h, beV_snoc]
theorem beV_small (l : List UInt8) (j : Nat) (hj : j < 8) (hl : j ≤ l.length) : beV (l.take j) < 72057594037927936 := by
 have h := beV_lt (l.take j)
 rw [List.length_take, Nat.min_eq_left hl] at h
 have h2 : (256 : Nat) ^ j ≤ 256 ^ 7 := Nat.pow_le_pow_right (by omega) (by omega)
 have h3 : (256 : Nat) ^ 7 = 72057594037927936 := by decide
 omega
theorem beV8 (l : List UInt8) (h : l.length = 8) : (0 : Int) ≤ (beV l : Int) ∧ (beV l : Int) < 18446744073709551616 := by
 have h1 := beV_lt l
 rw [h] at h1
 have h3 : (256 : Nat) ^ 8 = 18446744073709551616 := by decide
 omega
theorem beV_numL (n : Int) (n0 : 0 ≤ n) (n1 : n < 18446744073709551616) : (beV (numL n) : Int) = n := beV_num n n0 n1
theorem numof_any (p : Pt) (hl : p.l.length = 8) (w : World) (hp : p.In w w.heap.size) :
  Calls Try.prog 61 #[p.V] w fun e w' => e = .returned (.int .u64 (beV p.l : Int)) ∧ w = w' := by
 obtain ⟨a, o, e, _, hc⟩ := hp.read (by omega)
 have hv : p.V = .slice (some ⟨a, o, none⟩) 8 p.cap := by unfold Pt.V; rw [e, hl]
 have HL := Lib.hid hl
 have HC := Lib.hid hc
 rw [hv]
 clear hv hc e hl hp
 go_enter Try.func61, Try.ntmps61
 go_wp2_with fail
 go_loop [3, 8] (fun x i => ∃ j : Nat, j ≤ 8 ∧ i = .int .i64 j ∧ x = .int .u64 (beV (p.l.take j) : Int)) (fun _ i => 8 - (intOf i).toNat)
 case atStart => exact ⟨0, by omega, rfl, rfl⟩
 obtain ⟨j, hj, rfl, rfl⟩ := hrel
 by_cases hlt : j < 8
 ·have k := HC.out j (by rw [HL.out]; exact hlt)
  have ST := Lib.hid (beV_step p.l j (by rw [HL.out]; exact hlt))
  have SM := beV_small p.l j hlt (by rw [HL.out]; omega)
  have BL := (p.l.getD j 0).toNat_lt
  generalize p.l.getD j 0 = b at k ST BL
  obtain ⟨x, hx⟩ : ∃ x : Int, x = (beV (p.l.take j) : Int) := ⟨_, rfl⟩
  have x0 : 0 ≤ x := by omega
  have x1 : x < 72057594037927936 := by omega
  have J := Lib.hid (u64_join x (b.toNat : Int) x0 x1 (by omega) (by omega))
  have HX := Lib.hid hx
  rw [← hx]
  clear hx SM
  go_wp2_with fail
  refine ⟨⟨j + 1, by omega, by go_num, ?_⟩, by simp [intOf]; omega⟩
  rw [J.out, ST.out, HX.out]
  congr 1
 obtain rfl : j = 8 := by omega
 go_wp2_with fail
 go_ret
 rw [show p.l.take 8 = p.l from List.take_of_length_le (by rw [HL.out]; exact Nat.le_refl _)]
 exact ⟨rfl, rfl⟩
theorem rseed_any (p : Pt) (hl : 8 ≤ p.l.length) (w : World) (hp : p.In w w.heap.size) :
  Calls Try.prog 28 #[p.V] w fun e w' => e = .returned (.int .u64 (beV (p.l.take 8) : Int)) ∧ w = w' := by
 obtain ⟨a, o, e, _, hc⟩ := hp.read (by omega)
 obtain ⟨m, hm⟩ : ∃ m, m = p.l.length := ⟨_, rfl⟩
 have hv : p.V = .slice (some ⟨a, o, none⟩) m p.cap := by unfold Pt.V; rw [e, hm]
 have HL := Lib.hid hm
 have HC := Lib.hid hc
 have hm8 : 8 ≤ m := by omega
 rw [hv]
 clear hv hc e hm hp hl
 go_enter Try.func28, Try.ntmps28
 go_wp2_with fail
 go_loop [3, 4] (fun x i => ∃ j : Nat, j ≤ 8 ∧ i = .int .i64 j ∧ x = .int .u64 (beV (p.l.take j) : Int)) (fun _ i => 8 - (intOf i).toNat)
 case atStart => exact ⟨0, by omega, rfl, rfl⟩
 obtain ⟨j, hj, rfl, rfl⟩ := hrel
 by_cases hlt : j < 8
 ·have k := HC.out j (by rw [← HL.out]; omega)
  have ST := Lib.hid (beV_step p.l j (by rw [← HL.out]; omega))
  have SM := beV_small p.l j hlt (by rw [← HL.out]; omega)
  have BL := (p.l.getD j 0).toNat_lt
  have hjm : j < m := by omega
  generalize p.l.getD j 0 = b at k ST BL
  obtain ⟨x, hx⟩ : ∃ x : Int, x = (beV (p.l.take j) : Int) := ⟨_, rfl⟩
  have x0 : 0 ≤ x := by omega
  have x1 : x < 72057594037927936 := by omega
  have HX := Lib.hid hx
  rw [← hx]
  clear hx SM
  go_wp2_with fail
  refine ⟨⟨j + 1, by omega, by go_num, ?_⟩, by simp [intOf]; omega⟩
  rw [ST.out, HX.out]
  congr 1
 obtain rfl : j = 8 := by omega
 go_wp2_with fail
 go_ret
 exact ⟨rfl, rfl⟩
def innerL (kl : List UInt8) (s : Int) : List UInt8 := sumL (kl ++ numL s)
theorem innerL_len (kl : List UInt8) (s : Int) : (innerL kl s).length = 16 := sumL_len _
theorem inner_any (kl : List UInt8) (hkll : kl.length = 16) (n : Int) (n0 : 0 ≤ n) (n1 : n < 18446744073709551616) (w : World) :
  Calls Try.prog 37 #[digV kl, .int .u64 n] w fun e w' => e = .returned (digV (innerL kl n)) ∧ Below w.heap.size w w' := by
 obtain ⟨cs, hcs⟩ : ∃ cs, cs = (Lib.byteCells kl).toArray := ⟨_, rfl⟩
 have hv : digV kl = .agg cs := by rw [hcs]; rfl
 have x1 : Ex (w.alloc (.cells cs 36)) ((w.alloc (.cells cs 36)).alloc (.cells zero16 36)) := (Below.refl _ _).alloc (Nat.le_refl _) _
 have HA : Hid (DB ((w.alloc (.cells cs 36)).alloc (.cells zero16 36)) w.heap.size kl) := by rw [hcs]; exact Lib.hid ((DB.new rfl hkll).ext (by rw [← hcs]; exact x1))
 have HZ : Hid (Bk ((w.alloc (.cells cs 36)).alloc (.cells zero16 36)) (w.heap.size + 1) 36 zero16) := Lib.hid (Bk.new (by simp) _ _)
 have bw : Below w.heap.size w ((w.alloc (.cells cs 36)).alloc (.cells zero16 36)) := ((Below.refl _ _).alloc (Nat.le_refl _) _).alloc (by simp) _
 obtain ⟨X, hX⟩ : ∃ X, X = innerL kl n := ⟨_, rfl⟩
 have HX := Lib.hid (show X.length = 16 by rw [hX]; exact innerL_len _ _)
 have NB := Lib.hid (show ∀ W : World, Calls Try.prog 77 #[.int .u64 n] W (PtPost (numL n) W) from fun W => numberP n n0 n1 W)
 have KY := Lib.hid (show ∀ (W : World) (p : Pt), p.l = numL n → p.In W W.heap.size → Calls Try.prog 71 #[digV kl, p.V] W fun e w' => e = .returned (digV X) ∧ Below W.heap.size W w' from fun W p hp hi => by
  have h := keyed_any kl hkll p W hi (by rw [hp]; simp [numL])
  rw [hp] at h; rw [hX]; exact h)
 have bz := bw.size
 rw [hv, ← hX]
 clear hv hcs hX x1
 go_enter Try.func37, Try.ntmps37
 go_wp2_with fail
 change Code.wp Try.prog _ _ _ ((w.alloc (.cells cs 36)).alloc (.cells zero16 36))
 generalize (w.alloc (.cells cs 36)).alloc (.cells zero16 36) = wr at *
 obtain ⟨T, hT⟩ : ∃ T : List As, T = [.is (digV kl), .is (.int .u64 n), .pt (numL n), .is (digV X)] := ⟨_, rfl⟩
 refine wp_region_flow 4 (tabPhi T) (by kernel_rfl) rfl (by kernel_rfl) (by kernel_rfl) (by kernel_rfl) (tabPhi_stable T) (fitB_spec (by kernel_rfl)) ?_ ?_
 ·intro i o hi ho
  have hi' : i = 0 ∨ i = 1 ∨ i = 2 ∨ i = 3 := by omega
  rcases hi' with rfl | rfl | rfl | rfl
  all_goals (simp only [List.getElem?_toArray, List.getElem?_cons_zero, List.getElem?_cons_succ, Option.some.injEq] at ho; subst ho; intro a w2 hx hsz hdep hout)
  ·rw [if_pos (by rfl)]
   intro K hK
   have f := hout 2 (outB_spec (by kernel_rfl))
   exact wp_ld _ w.heap.size kl rfl f (HA.out.ext (Ex.trans (show Ex wr wr.drew from (Below.refl _ _).drew) hx)) (hK _ _ (Ex.refl _) (by rw [hT]; rfl))
  ·rw [if_pos (by rfl)]
   intro K hK
   have f := hout 1 (outB_spec (by kernel_rfl))
   exact wp_mv _ rfl (hK _ _ (Ex.refl _) (by rw [hT]; exact f))
  ·rw [if_pos (by rfl)]
   intro K hK
   obtain ⟨v, hv, kv⟩ := hdep ⟨1, .data⟩ (by simp) rfl _ rfl
   have qv := kv _ rfl
   rw [hT] at hv
   obtain rfl : v = .int .u64 n := hv
   go_simp
   refine (NB.out w2).mono ?_
   rintro e w3 ⟨p, rfl, hl, hin, hex⟩
   exact hK _ _ hex (by rw [hT]; exact ⟨p, rfl, hl, hin⟩)
  rw [if_pos (by rfl)]
  intro K hK
  obtain ⟨v, hv, kv⟩ := hdep ⟨0, .data⟩ (by simp) rfl _ rfl
  have qv := kv _ rfl
  rw [hT] at hv
  obtain rfl : v = digV kl := hv
  obtain ⟨u, hu, ku⟩ := hdep ⟨2, .data⟩ (by simp) rfl _ rfl
  have qu := ku _ rfl
  rw [hT] at hu
  obtain ⟨pu, rfl, lu, iu⟩ := hu
  go_simp
  refine (KY.out w2 pu lu iu).mono ?_
  rintro e w3 ⟨rfl, hex⟩
  exact hK _ _ hex (by rw [hT]; rfl)
 intro a w2 hx hdef hsz hdone hout
 obtain ⟨v, hv, kv⟩ := hdone 3 _ (by omega) rfl
 have qv := kv _ rfl
 rw [hT] at hv
 obtain rfl : v = digV X := hv
 clear hdone kv hT
 have hA := arr_range a.tmps 9 hsz
 change a.tmps = #[a.tmps[0]?.getD undef, a.tmps[1]?.getD undef, a.tmps[2]?.getD undef, a.tmps[3]?.getD undef, a.tmps[4]?.getD undef, a.tmps[5]?.getD undef, a.tmps[6]?.getD undef, a.tmps[7]?.getD undef, a.tmps[8]?.getD undef] at hA
 have e0 := hout 0 oc
 have e1 := hout 1 oc
 have e2 := hout 2 oc
 have e3 := hout 3 oc
 have e4 := hout 4 oc
 simp only [Array.getD_eq_getD_getElem?, List.getElem?_toArray, List.getElem?_cons_zero, List.getElem?_cons_succ, Option.getD_some] at e0 e1 e2 e3 e4
 rw [e0, e1, e2, e3, e4] at hA
 clear e0 e1 e2 e3 e4 hout
 have hds2 : a.defers = [] := hdef
 have ea : a = ⟨a.tmps, a.defers⟩ := rfl
 have s8 : a.tmps[8]?.getD undef = digV X := by simpa [Array.getD_eq_getD_getElem?] using qv
 rw [hA, hds2, s8] at ea
 clear hA hds2 s8 qv hdef
 generalize a.tmps[5]?.getD undef = y5 at ea
 generalize a.tmps[6]?.getD undef = y6 at ea
 generalize a.tmps[7]?.getD undef = y7 at ea
 clear hsz
 subst ea
 have bx : Below wr.heap.size wr w2 := Below.trans (Below.refl _ _).drew hx
 unfold wpOp
 simp only [List.getElem?_toArray, List.getElem?_cons_zero, List.getElem?_cons_succ]
 rw [if_pos (by rfl)]
 left
 have bw2 := bw.trans (bx.mono bz)
 refine wp_st _ _ (w.heap.size + 1) X rfl rfl rfl HX.out (HZ.out.ext (show Ex wr w2 from bx)) rfl (fun w3 hd ho => ?_)
 go_simp
 go_wp2_with fail
 exact bodyPost_ret (res_dig rfl _ _ (w.heap.size + 1) rfl X hd) rfl ⟨rfl, ho.below _ (by omega) _ bw2⟩
theorem rinner_any (kl : List UInt8) (hkll : kl.length = 16) (n : Int) (n0 : 0 ≤ n) (n1 : n < 18446744073709551616) (w : World) :
  Calls Try.prog 38 #[digV kl, .int .u64 n] w fun e w' => e = .returned (digV (innerL kl n)) ∧ Below w.heap.size w w' := by
 obtain ⟨cs, hcs⟩ : ∃ cs, cs = (Lib.byteCells kl).toArray := ⟨_, rfl⟩
 have hv : digV kl = .agg cs := by rw [hcs]; rfl
 have x1 : Ex (w.alloc (.cells cs 36)) ((w.alloc (.cells cs 36)).alloc (.cells zero16 36)) := (Below.refl _ _).alloc (Nat.le_refl _) _
 have HA : Hid (DB ((w.alloc (.cells cs 36)).alloc (.cells zero16 36)) w.heap.size kl) := by rw [hcs]; exact Lib.hid ((DB.new rfl hkll).ext (by rw [← hcs]; exact x1))
 have HZ : Hid (Bk ((w.alloc (.cells cs 36)).alloc (.cells zero16 36)) (w.heap.size + 1) 36 zero16) := Lib.hid (Bk.new (by simp) _ _)
 have bw : Below w.heap.size w ((w.alloc (.cells cs 36)).alloc (.cells zero16 36)) := ((Below.refl _ _).alloc (Nat.le_refl _) _).alloc (by simp) _
 obtain ⟨X, hX⟩ : ∃ X, X = innerL kl n := ⟨_, rfl⟩
 have HX := Lib.hid (show X.length = 16 by rw [hX]; exact innerL_len _ _)
 have NB := Lib.hid (show ∀ W : World, Calls Try.prog 59 #[.int .u64 n] W (PtPost (numL n) W) from fun W => rnumberP n n0 n1 W)
 have KY := Lib.hid (show ∀ (W : World) (p : Pt), p.l = numL n → p.In W W.heap.size → Calls Try.prog 73 #[digV kl, p.V] W fun e w' => e = .returned (digV X) ∧ Below W.heap.size W w' from fun W p hp hi => by
  have h := rkeyed_any kl hkll p W hi (by rw [hp]; simp [numL])
  rw [hp] at h; rw [hX]; exact h)
 have bz := bw.size
 rw [hv, ← hX]
 clear hv hcs hX x1
 go_enter Try.func38, Try.ntmps38
 go_wp2_with fail
 change Code.wp Try.prog _ _ _ ((w.alloc (.cells cs 36)).alloc (.cells zero16 36))
 generalize (w.alloc (.cells cs 36)).alloc (.cells zero16 36) = wr at *
 obtain ⟨T, hT⟩ : ∃ T : List As, T = [.is (digV kl), .is (.int .u64 n), .pt (numL n), .is (digV X)] := ⟨_, rfl⟩
 refine wp_region_flow 4 (tabPhi T) (by kernel_rfl) rfl (by kernel_rfl) (by kernel_rfl) (by kernel_rfl) (tabPhi_stable T) (fitB_spec (by kernel_rfl)) ?_ ?_
 ·intro i o hi ho
  have hi' : i = 0 ∨ i = 1 ∨ i = 2 ∨ i = 3 := by omega
  rcases hi' with rfl | rfl | rfl | rfl
  all_goals (simp only [List.getElem?_toArray, List.getElem?_cons_zero, List.getElem?_cons_succ, Option.some.injEq] at ho; subst ho; intro a w2 hx hsz hdep hout)
  ·rw [if_pos (by rfl)]
   intro K hK
   have f := hout 2 (outB_spec (by kernel_rfl))
   exact wp_ld _ w.heap.size kl rfl f (HA.out.ext (Ex.trans (show Ex wr wr.drew from (Below.refl _ _).drew) hx)) (hK _ _ (Ex.refl _) (by rw [hT]; rfl))
  ·rw [if_pos (by rfl)]
   intro K hK
   have f := hout 1 (outB_spec (by kernel_rfl))
   exact wp_mv _ rfl (hK _ _ (Ex.refl _) (by rw [hT]; exact f))
  ·rw [if_pos (by rfl)]
   intro K hK
   obtain ⟨v, hv, kv⟩ := hdep ⟨1, .data⟩ (by simp) rfl _ rfl
   have qv := kv _ rfl
   rw [hT] at hv
   obtain rfl : v = .int .u64 n := hv
   go_simp
   refine (NB.out w2).mono ?_
   rintro e w3 ⟨p, rfl, hl, hin, hex⟩
   exact hK _ _ hex (by rw [hT]; exact ⟨p, rfl, hl, hin⟩)
  rw [if_pos (by rfl)]
  intro K hK
  obtain ⟨v, hv, kv⟩ := hdep ⟨0, .data⟩ (by simp) rfl _ rfl
  have qv := kv _ rfl
  rw [hT] at hv
  obtain rfl : v = digV kl := hv
  obtain ⟨u, hu, ku⟩ := hdep ⟨2, .data⟩ (by simp) rfl _ rfl
  have qu := ku _ rfl
  rw [hT] at hu
  obtain ⟨pu, rfl, lu, iu⟩ := hu
  go_simp
  refine (KY.out w2 pu lu iu).mono ?_
  rintro e w3 ⟨rfl, hex⟩
  exact hK _ _ hex (by rw [hT]; rfl)
 intro a w2 hx hdef hsz hdone hout
 obtain ⟨v, hv, kv⟩ := hdone 3 _ (by omega) rfl
 have qv := kv _ rfl
 rw [hT] at hv
 obtain rfl : v = digV X := hv
 clear hdone kv hT
 have hA := arr_range a.tmps 9 hsz
 change a.tmps = #[a.tmps[0]?.getD undef, a.tmps[1]?.getD undef, a.tmps[2]?.getD undef, a.tmps[3]?.getD undef, a.tmps[4]?.getD undef, a.tmps[5]?.getD undef, a.tmps[6]?.getD undef, a.tmps[7]?.getD undef, a.tmps[8]?.getD undef] at hA
 have e0 := hout 0 oc
 have e1 := hout 1 oc
 have e2 := hout 2 oc
 have e3 := hout 3 oc
 have e4 := hout 4 oc
 simp only [Array.getD_eq_getD_getElem?, List.getElem?_toArray, List.getElem?_cons_zero, List.getElem?_cons_succ, Option.getD_some] at e0 e1 e2 e3 e4
 rw [e0, e1, e2, e3, e4] at hA
 clear e0 e1 e2 e3 e4 hout
 have hds2 : a.defers = [] := hdef
 have ea : a = ⟨a.tmps, a.defers⟩ := rfl
 have s8 : a.tmps[8]?.getD undef = digV X := by simpa [Array.getD_eq_getD_getElem?] using qv
 rw [hA, hds2, s8] at ea
 clear hA hds2 s8 qv hdef
 generalize a.tmps[5]?.getD undef = y5 at ea
 generalize a.tmps[6]?.getD undef = y6 at ea
 generalize a.tmps[7]?.getD undef = y7 at ea
 clear hsz
 subst ea
 have bx : Below wr.heap.size wr w2 := Below.trans (Below.refl _ _).drew hx
 unfold wpOp
 simp only [List.getElem?_toArray, List.getElem?_cons_zero, List.getElem?_cons_succ]
 rw [if_pos (by rfl)]
 left
 have bw2 := bw.trans (bx.mono bz)
 refine wp_st _ _ (w.heap.size + 1) X rfl rfl rfl HX.out (HZ.out.ext (show Ex wr w2 from bx)) rfl (fun w3 hd ho => ?_)
 go_simp
 go_wp2_with fail
 exact bodyPost_ret (res_dig rfl _ _ (w.heap.size + 1) rfl X hd) rfl ⟨rfl, ho.below _ (by omega) _ bw2⟩
end Go.Proofs.Ytopamplmpfndlaa.Sm
