/- Re -/
import Derived.Test.YtmjfnpmnhehnkaaQbe
set_option maxRecDepth 100000
set_option maxHeartbeats 16000000
namespace Go.Proofs.Ytmjfnpmnhehnkaa
open Go.RowKit
def Has (l : List Vt) (id : List UInt8) : Prop := ∃ y ∈ l, y.id = id
theorem ex_drewN (w : World) (n : Nat) : Ex w (w.drewN n) := ⟨rfl, rfl, rfl, Nat.le_refl _, fun _ _ => rfl⟩
theorem GetP.has {xs : List Vt} {id : List UInt8} {x : Vt} {k : Int} (h : GetP xs id x k) : (k = -1 ∧ ¬ Has xs id) ∨ ((0 ≤ k) ∧ Has xs id) := by
 rcases h with ⟨e, _, h⟩ | ⟨j, e, h1, h2⟩
 ·exact Or.inl ⟨e, fun ⟨y, hy, e2⟩ => h y hy e2⟩
 exact Or.inr ⟨by omega, ⟨x, List.mem_of_getElem? h1, h2⟩⟩
theorem rcheck_keep (w0 : World) (M : Nat) (m n : Int) (p : Nat → Pa) (R : Nat → Value) (xs : Nat → List Vt) (x : Rk) (hk : x.kind = 1) (s : Nat) (hs : Sm.shV x.v.id = (s : Int)) (hs16 : s < 16) (b : Bool) (hb : b = true ↔ Has (xs s) x.v.id) (E1 : Int) (hE1 : E1 = ckE (p s) b (xs s).length) (w : World) (hx : x.In w) (h : RS w0 w M m n p R xs) : Calls Try.prog 53 #[.pointer (some ⟨M, 0, none⟩), x.V] w (SCPost x.keepR E1 w) := by
 have HE1 := Hi hE1
 have HSS := Hi hs
 have HBB := Hi hb
 clear hE1 hs hb
 obtain ⟨cs, hcs⟩ : ∃ cs, cs = x.C.toArray := ⟨_, rfl⟩
 have A0 : Hid (KB9 (w.alloc (.cells cs 39)) w.heap.size x) := Hi ⟨hx.v.ok, by rw [hcs]; exact Bk.new rfl _ _⟩
 have B0 : Hid (Ex w (w.alloc (.cells cs 39))) := Hi (Ex.alloc _ _)
 have HS := Hi (h.ext B0.out)
 rw [show (Calls Try.prog 53 #[.pointer (some ⟨M, 0, none⟩), x.V] w) = (Calls Try.prog 53 #[.pointer (some ⟨M, 0, none⟩), .agg cs] w) by rw [hcs]; rfl]
 have HX := Hi hx
 clear hcs hx h
 have HK := Hi hk
 go_enter Try.func53, Try.ntmps53
 have HP := Hi HS.out
 go_wp2_with (first | ((with_reducible refine so0 ?_ ?_); (focus rfl)) | ((with_reducible refine so4 [39] ?_ ?_); (focus rfl)))
 (with_reducible refine ⟨?_⟩)
 change wpList _ _ _ _ _ (w.alloc (.cells cs 39))
 generalize hw1 : w.alloc (.cells cs 39) = w1 at *
 clear hw1
 obtain ⟨B, hB⟩ : ∃ B, B = w.heap.size := ⟨_, rfl⟩
 rw [← hB] at A0 ⊢
 have HB := Hi hB
 clear hB
 (with_reducible refine at_any ?_ ?_); (focus go_simp); refine fun K0 hK => ld_rk _ B x rfl rfl A0.out (hK _ _ ?_)
 clear hK
 go_wp2_with fail
 refine (rrr_keep x HK.out w1 (HX.out.ext B0.out)).mono ?_
 rintro e w2 ⟨b9, rfl, hb, x2⟩
 replace A0 := Hi (A0.out.ext x2)
 replace B0 := Hi (Ex.trans B0.out x2)
 have HBR := Hi hb
 have HP2 := Hi (HS.out.ext x2)
 clear hb x2
 have c0 : w2.cell? ⟨B, 0, none⟩ = some (.int .i64 1) := by rw [← HK.out]; exact A0.out.cells.1
 cases b9
 ·skip
  go_wp2_with fail
  go_ret
  exact ⟨1, rfl, fun h => absurd (HBR.out.2 h) (by simp), fun _ => rfl, B0.out⟩
 have HOR : Hid x.keepR := Hi (HBR.out.1 (by simp))
 have IDN := Hi HX.out.v.ok.idN
 go_wp2_with (first | ((with_reducible refine so0 ?_ ?_); (focus rfl)) | ((with_reducible refine so4 [39] ?_ ?_); (focus rfl)))
 refine at9 (by go_simp) fun K0 hK => ld_rkid _ B x rfl rfl A0.out (hK _ _ ?_)
 clear hK
 go_wp2_with fail
 refine (rfind_any w0 M m n p R xs s hs16 x.v.id IDN.out HSS.out w2 HP2.out).mono ?_
 rintro e w3 ⟨y, k, rfl, hg, x3⟩
 replace A0 := Hi (A0.out.ext x3)
 replace B0 := Hi (Ex.trans B0.out x3)
 have HP3 := Hi (HP2.out.ext x3)
 have HG := Hi hg.has
 clear hg x3 c0
 go_wp2_with fail
 refine (owned_any w0 M m n p R xs s hs16 w3 HP3.out).mono ?_
 rintro e w4 ⟨rfl, x4⟩
 replace A0 := Hi (A0.out.ext x4)
 replace B0 := Hi (Ex.trans B0.out x4)
 have HP4 := Hi (HP3.out.ext x4)
 clear x4
 obtain ⟨hE, hhE⟩ : ∃ h, h = heldE (p s) := ⟨_, rfl⟩
 have HHE := Hi hhE
 rw [← hhE]
 clear hhE
 have qs0 : (0 : Int) ≤ (s : Int) := by omega
 have qs1 : (s : Int) < 16 := by omega
 by_cases hh : hE = 0
 rotate_left
 ·have HEV : Hid (hE = E1) := Hi (by rw [HE1.out, HHE.out]; exact (ckE_held (by rw [← HHE.out]; exact hh)).symm)
  go_wp2_with fail
  go_ret
  exact ⟨hE, rfl, fun _ => HEV.out, fun h => absurd HOR.out h, B0.out⟩
 subst hh
 have HF : Hid (E1 = if b = false ∧ 4 ≤ (xs s).length then 13 else 0) := Hi (by rw [HE1.out]; exact ckE_free HHE.out.symm)
 obtain ⟨ad, cap, hR, hin, hcap⟩ := (HP4.out.rw s hs16).inn
 have c3 : w4.cell? ⟨M, 2 + s * 4 + 3, none⟩ = some (.slice ad (xs s).length cap) := by rw [(HP4.out.cells hs16).2.2.2, hR]
 clear hR hin hcap
 obtain ⟨nn, hn⟩ : ∃ n, n = (xs s).length := ⟨_, rfl⟩
 rw [← hn] at c3 HF
 clear hn
 rcases HG.out with ⟨rfl, hno⟩ | ⟨hk0, hyes⟩
 ·have HB0 : Hid (b = false) := Hi (Bool.eq_false_iff.2 (fun h => hno (HBB.out.1 h)))
  clear hno
  by_cases h4 : 4 ≤ nn
  ·have HEV : Hid (13 = E1) := Hi (by rw [HF.out, if_pos ⟨HB0.out, h4⟩])
   have h5 : (4 : Int) ≤ (nn : Int) := by omega
   go_wp2_with fail
   go_ret
   exact ⟨13, rfl, fun _ => HEV.out, fun h => absurd HOR.out h, B0.out⟩
  have HEV : Hid (0 = E1) := Hi (by rw [HF.out, if_neg (fun h => h4 h.2)])
  have h5 : ¬ (4 : Int) ≤ (nn : Int) := by omega
  go_wp2_with fail
  go_ret
  exact ⟨0, rfl, fun _ => HEV.out, fun h => absurd HOR.out h, B0.out⟩
 have HEV : Hid (0 = E1) := Hi (by rw [HF.out, if_neg (fun h => by have h2 := HBB.out.2 hyes; rw [h.1] at h2; cases h2)])
 have hkn : ¬ k < 0 := by omega
 clear hyes
 go_wp2_with fail
 go_ret
 exact ⟨0, rfl, fun _ => HEV.out, fun h => absurd HOR.out h, B0.out⟩
theorem rcheck_out (w0 : World) (M : Nat) (m n : Int) (p : Nat → Pa) (R : Nat → Value) (xs : Nat → List Vt) (x : Rk) (hk : x.kind = 2) (E1 : Int) (hE1 : E1 = outE m n (p x.shard.toNat) x.tw x.ep) (w : World) (hx : x.In w) (h : RS w0 w M m n p R xs) : Calls Try.prog 53 #[.pointer (some ⟨M, 0, none⟩), x.V] w (SCPost x.outR E1 w) := by
 have HE1 := Hi hE1
 clear hE1
 obtain ⟨cs, hcs⟩ : ∃ cs, cs = x.C.toArray := ⟨_, rfl⟩
 have A0 : Hid (KB9 (w.alloc (.cells cs 39)) w.heap.size x) := Hi ⟨hx.v.ok, by rw [hcs]; exact Bk.new rfl _ _⟩
 have B0 : Hid (Ex w (w.alloc (.cells cs 39))) := Hi (Ex.alloc _ _)
 have HS := Hi (h.ext B0.out)
 rw [show (Calls Try.prog 53 #[.pointer (some ⟨M, 0, none⟩), x.V] w) = (Calls Try.prog 53 #[.pointer (some ⟨M, 0, none⟩), .agg cs] w) by rw [hcs]; rfl]
 have HX := Hi hx
 clear hcs hx h
 have HK := Hi hk
 go_enter Try.func53, Try.ntmps53
 have HP := Hi HS.out
 go_wp2_with (first | ((with_reducible refine so0 ?_ ?_); (focus rfl)) | ((with_reducible refine so4 [39] ?_ ?_); (focus rfl)))
 (with_reducible refine ⟨?_⟩)
 change wpList _ _ _ _ _ (w.alloc (.cells cs 39))
 generalize hw1 : w.alloc (.cells cs 39) = w1 at *
 clear hw1
 obtain ⟨B, hB⟩ : ∃ B, B = w.heap.size := ⟨_, rfl⟩
 rw [← hB] at A0 ⊢
 have HB := Hi hB
 clear hB
 (with_reducible refine at_any ?_ ?_); (focus go_simp); refine fun K0 hK => ld_rk _ B x rfl rfl A0.out (hK _ _ ?_)
 clear hK
 go_wp2_with fail
 refine (rrr_out x HK.out w1 (HX.out.ext B0.out)).mono ?_
 rintro e w2 ⟨b9, rfl, hb, x2⟩
 replace A0 := Hi (A0.out.ext x2)
 replace B0 := Hi (Ex.trans B0.out x2)
 have HBR := Hi hb
 have HP2 := Hi (HS.out.ext x2)
 clear hb x2
 have c0 : w2.cell? ⟨B, 0, none⟩ = some (.int .i64 2) := by rw [← HK.out]; exact A0.out.cells.1
 cases b9
 ·skip
  go_wp2_with fail
  go_ret
  exact ⟨1, rfl, fun h => absurd (HBR.out.2 h) (by simp), fun _ => rfl, B0.out⟩
 have HOR : Hid x.outR := Hi (HBR.out.1 (by simp))
 have hsh : x.shard = ((x.shard.toNat : Nat) : Int) := by have := HOR.out.1.1; omega
 have hs16 : x.shard.toNat < 16 := by have := HOR.out.1.2.1; omega
 obtain ⟨s, hs⟩ : ∃ s, s = x.shard.toNat := ⟨_, rfl⟩
 rw [← hs] at hsh hs16
 rw [← hs] at HE1
 obtain ⟨q, hq⟩ : ∃ q, q = p s := ⟨_, rfl⟩
 rw [← hq] at HE1
 have qs0 : (0 : Int) ≤ (s : Int) := by omega
 have qs1 : (s : Int) < 16 := by omega
 have HSS := Hi hsh
 have HQ := Hi hq
 clear hsh hs hq
 have HC4 := Hi (show ∀ wz, Ex w2 wz → wz.cell? ⟨M, 2 + s * 4, none⟩ = some (.int .i64 q.role) ∧ wz.cell? ⟨M, 2 + s * 4 + 1, none⟩ = some (.int .u64 q.ep) from fun wz e => by rw [HQ.out]; exact ⟨((HP2.out.ext e).cells hs16).1, ((HP2.out.ext e).cells hs16).2.1⟩)
 have HH := Hi (show ∀ wz, Ex w2 wz → wz.cell? ⟨M, 0, none⟩ = some (.int .i64 m) ∧ wz.cell? ⟨M, 1, none⟩ = some (.int .i64 n) from fun wz e => (HP2.out.ext e).heads)
 have HR9 := Hi (show ∀ wz, Ex w2 wz → wz.cell? ⟨B, 1, none⟩ = some (.int .i64 (s : Int)) ∧ wz.cell? ⟨B, 2, none⟩ = some (.int .i64 x.tw) ∧ wz.cell? ⟨B, 3, none⟩ = some (.int .u64 x.ep) ∧ wz.cell? ⟨B, 46, none⟩ = some (.slice x.ad x.l.length x.cap) from fun wz e => ⟨by rw [← HSS.out]; exact (A0.out.ext e).cells.2.1, (A0.out.ext e).cells.2.2.1, (A0.out.ext e).cells.2.2.2.1, (A0.out.ext e).cells.2.2.2.2⟩)
 have HP2S := Hi (A0.out)
 have BB2 := Hi (show Ex w w2 from B0.out)
 have h0t : 0 ≤ x.tw := HOR.out.2.1
 by_cases ht1 : n ≤ x.tw
 ·have HEV : Hid (1 = E1) := Hi (by rw [HE1.out]; unfold outE; rw [if_pos (fun h => by omega)])
  clear h0t
  go_wp2_with fail
  have cq1 := (HR9.out _ (Ex.refl _)).2.1
  have cq2 := (HH.out _ (Ex.refl _)).1
  have cq3 := (HH.out _ (Ex.refl _)).2
  go_quiet (fail)
  have xx : Ex w2 (w2.drewN nq) := ex_drewN w2 nq
  generalize hwn : w2.drewN nq = w3 at *
  clear hwn
  clear cq1 cq2 cq3
  replace B0 := Hi (Ex.trans B0.out xx)
  clear xx
  go_wp2_with fail
  go_ret
  exact ⟨1, rfl, fun _ => HEV.out, fun h => absurd HOR.out h, B0.out⟩
 skip
 by_cases ht2 : x.tw = m
 ·have HEV : Hid (1 = E1) := Hi (by rw [HE1.out]; unfold outE; rw [if_pos (fun h => by omega)])
  have HT2 := Hi ht2
  clear h0t ht2
  go_wp2_with fail
  have cq1 := (HR9.out _ (Ex.refl _)).2.1
  have cq2 := (HH.out _ (Ex.refl _)).1
  have cq3 := (HH.out _ (Ex.refl _)).2
  have hd1 : decide (n ≤ x.tw) = false := decide_eq_false (by omega)
  rw [HT2.out] at cq1 hd1
  go_quiet (fail)
  have xx : Ex w2 (w2.drewN nq) := ex_drewN w2 nq
  generalize hwn : w2.drewN nq = w3 at *
  clear hwn
  clear cq1 cq2 cq3
  replace B0 := Hi (Ex.trans B0.out xx)
  clear xx
  go_wp2_with fail
  go_ret
  exact ⟨1, rfl, fun _ => HEV.out, fun h => absurd HOR.out h, B0.out⟩
 have HOK : Hid (0 ≤ x.tw ∧ x.tw < n ∧ x.tw ≠ m) := Hi ⟨h0t, by omega, ht2⟩
 have HT2 := Hi ht2
 clear h0t ht2
 go_wp2_with fail
 have cq1 := (HR9.out _ (Ex.refl _)).2.1
 have cq2 := (HH.out _ (Ex.refl _)).1
 have cq3 := (HH.out _ (Ex.refl _)).2
 have hd1 : decide (n ≤ x.tw) = false := decide_eq_false (by omega)
 have hcf := HT2.out
 go_quiet (fail)
 have xx : Ex w2 (w2.drewN nq) := ex_drewN w2 nq
 generalize hwn : w2.drewN nq = w3 at *
 clear hwn
 clear cq1 cq2 cq3
 replace B0 := Hi (Ex.trans B0.out xx)
 have XA := Hi xx
 replace HP2 := Hi (HP2.out.ext xx)
 clear xx
 have c1 := (HR9.out _ XA.out).1
 go_wp2_with fail
 refine (owned_any w0 M m n p R xs s hs16 w3 HP2.out).mono ?_
 rintro e w4 ⟨rfl, x4⟩
 replace B0 := Hi (Ex.trans B0.out x4)
 replace XA := Hi (Ex.trans XA.out x4)
 clear x4
 rw [← HQ.out]
 obtain ⟨hE, hhE⟩ : ∃ h, h = heldE q := ⟨_, rfl⟩
 have HHE := Hi hhE
 rw [← hhE]
 clear hhE c1
 by_cases hh : hE = 0
 rotate_left
 ·have HEV : Hid (hE = E1) := Hi (by rw [HE1.out]; unfold outE; rw [if_neg (fun h => h HOK.out), if_pos (by rw [← HHE.out]; exact hh), ← HHE.out])
  go_wp2_with fail
  go_ret
  exact ⟨hE, rfl, fun _ => HEV.out, fun h => absurd HOR.out h, B0.out⟩
 subst hh
 by_cases h9 : x.ep = IntKind.u64.wrap (q.ep + 1)
 ·have HEV : Hid (0 = E1) := Hi (by rw [HE1.out]; unfold outE; rw [if_neg (fun h => h HOK.out), if_neg (fun h => h HHE.out.symm), if_pos h9])
  have H9 := Hi h9
  clear h9
  go_wp2_with fail
  have cq1 := (HR9.out _ XA.out).1
  have cq2 := (HR9.out _ XA.out).2.2.1
  have cq3 := (HC4.out _ XA.out).2
  rw [H9.out] at cq2
  go_quiet (fail)
  have xx : Ex w4 (w4.drewN nq) := ex_drewN w4 nq
  generalize hwn : w4.drewN nq = w5 at *
  clear hwn
  clear cq1 cq2 cq3
  replace B0 := Hi (Ex.trans B0.out xx)
  clear xx
  go_wp2_with fail
  go_ret
  exact ⟨0, rfl, fun _ => HEV.out, fun h => absurd HOR.out h, B0.out⟩
 have HEV : Hid (1 = E1) := Hi (by rw [HE1.out]; unfold outE; rw [if_neg (fun h => h HOK.out), if_neg (fun h => h HHE.out.symm), if_neg h9])
 have H9 := Hi h9
 clear h9
 go_wp2_with fail
 have cq1 := (HR9.out _ XA.out).1
 have cq2 := (HR9.out _ XA.out).2.2.1
 have cq3 := (HC4.out _ XA.out).2
 have hcf := H9.out
 go_quiet (fail)
 have xx : Ex w4 (w4.drewN nq) := ex_drewN w4 nq
 generalize hwn : w4.drewN nq = w5 at *
 clear hwn
 clear cq1 cq2 cq3
 replace B0 := Hi (Ex.trans B0.out xx)
 clear xx
 go_wp2_with fail
 go_ret
 exact ⟨1, rfl, fun _ => HEV.out, fun h => absurd HOR.out h, B0.out⟩
theorem rcheck_done (w0 : World) (M : Nat) (m n : Int) (p : Nat → Pa) (R : Nat → Value) (xs : Nat → List Vt) (x : Rk) (hk : x.kind = 4) (E1 : Int) (hE1 : E1 = if (p x.shard.toNat).role = 2 ∧ (p x.shard.toNat).ep = x.ep then 0 else 26) (w : World) (hx : x.In w) (h : RS w0 w M m n p R xs) : Calls Try.prog 53 #[.pointer (some ⟨M, 0, none⟩), x.V] w (SCPost x.doneR E1 w) := by
 have HE1 := Hi hE1
 clear hE1
 obtain ⟨cs, hcs⟩ : ∃ cs, cs = x.C.toArray := ⟨_, rfl⟩
 have A0 : Hid (KB9 (w.alloc (.cells cs 39)) w.heap.size x) := Hi ⟨hx.v.ok, by rw [hcs]; exact Bk.new rfl _ _⟩
 have B0 : Hid (Ex w (w.alloc (.cells cs 39))) := Hi (Ex.alloc _ _)
 have HS := Hi (h.ext B0.out)
 rw [show (Calls Try.prog 53 #[.pointer (some ⟨M, 0, none⟩), x.V] w) = (Calls Try.prog 53 #[.pointer (some ⟨M, 0, none⟩), .agg cs] w) by rw [hcs]; rfl]
 have HX := Hi hx
 clear hcs hx h
 have HK := Hi hk
 go_enter Try.func53, Try.ntmps53
 have HP := Hi HS.out
 go_wp2_with (first | ((with_reducible refine so0 ?_ ?_); (focus rfl)) | ((with_reducible refine so4 [39] ?_ ?_); (focus rfl)))
 (with_reducible refine ⟨?_⟩)
 change wpList _ _ _ _ _ (w.alloc (.cells cs 39))
 generalize hw1 : w.alloc (.cells cs 39) = w1 at *
 clear hw1
 obtain ⟨B, hB⟩ : ∃ B, B = w.heap.size := ⟨_, rfl⟩
 rw [← hB] at A0 ⊢
 have HB := Hi hB
 clear hB
 (with_reducible refine at_any ?_ ?_); (focus go_simp); refine fun K0 hK => ld_rk _ B x rfl rfl A0.out (hK _ _ ?_)
 clear hK
 go_wp2_with fail
 refine (rrr_done x HK.out w1 (HX.out.ext B0.out)).mono ?_
 rintro e w2 ⟨b9, rfl, hb, x2⟩
 replace A0 := Hi (A0.out.ext x2)
 replace B0 := Hi (Ex.trans B0.out x2)
 have HBR := Hi hb
 have HP2 := Hi (HS.out.ext x2)
 clear hb x2
 have c0 : w2.cell? ⟨B, 0, none⟩ = some (.int .i64 4) := by rw [← HK.out]; exact A0.out.cells.1
 cases b9
 ·skip
  go_wp2_with fail
  go_ret
  exact ⟨1, rfl, fun h => absurd (HBR.out.2 h) (by simp), fun _ => rfl, B0.out⟩
 have HOR : Hid x.doneR := Hi (HBR.out.1 (by simp))
 have hsh : x.shard = ((x.shard.toNat : Nat) : Int) := by have := HOR.out.1.1; omega
 have hs16 : x.shard.toNat < 16 := by have := HOR.out.1.2.1; omega
 obtain ⟨s, hs⟩ : ∃ s, s = x.shard.toNat := ⟨_, rfl⟩
 rw [← hs] at hsh hs16
 rw [← hs] at HE1
 obtain ⟨q, hq⟩ : ∃ q, q = p s := ⟨_, rfl⟩
 rw [← hq] at HE1
 have qs0 : (0 : Int) ≤ (s : Int) := by omega
 have qs1 : (s : Int) < 16 := by omega
 have HSS := Hi hsh
 have HQ := Hi hq
 clear hsh hs hq
 have HC4 := Hi (show ∀ wz, Ex w2 wz → wz.cell? ⟨M, 2 + s * 4, none⟩ = some (.int .i64 q.role) ∧ wz.cell? ⟨M, 2 + s * 4 + 1, none⟩ = some (.int .u64 q.ep) from fun wz e => by rw [HQ.out]; exact ⟨((HP2.out.ext e).cells hs16).1, ((HP2.out.ext e).cells hs16).2.1⟩)
 have HH := Hi (show ∀ wz, Ex w2 wz → wz.cell? ⟨M, 0, none⟩ = some (.int .i64 m) ∧ wz.cell? ⟨M, 1, none⟩ = some (.int .i64 n) from fun wz e => (HP2.out.ext e).heads)
 have HR9 := Hi (show ∀ wz, Ex w2 wz → wz.cell? ⟨B, 1, none⟩ = some (.int .i64 (s : Int)) ∧ wz.cell? ⟨B, 2, none⟩ = some (.int .i64 x.tw) ∧ wz.cell? ⟨B, 3, none⟩ = some (.int .u64 x.ep) ∧ wz.cell? ⟨B, 46, none⟩ = some (.slice x.ad x.l.length x.cap) from fun wz e => ⟨by rw [← HSS.out]; exact (A0.out.ext e).cells.2.1, (A0.out.ext e).cells.2.2.1, (A0.out.ext e).cells.2.2.2.1, (A0.out.ext e).cells.2.2.2.2⟩)
 have HP2S := Hi (A0.out)
 have BB2 := Hi (show Ex w w2 from B0.out)
 by_cases h2 : q.role = 2
 rotate_left
 ·have HEV : Hid (26 = E1) := Hi (by rw [HE1.out, if_neg (fun h => h2 h.1)])
  have H2 := Hi h2
  clear h2
  go_wp2_with fail
  have cq1 := (HR9.out _ (Ex.refl _)).1
  have cq2 := (HC4.out _ (Ex.refl _)).1
  have cq3 := (HC4.out _ (Ex.refl _)).2
  have cq4 := (HR9.out _ (Ex.refl _)).2.2.1
  have hcf := H2.out
  go_quiet (fail)
  have xx : Ex w2 (w2.drewN nq) := ex_drewN w2 nq
  generalize hwn : w2.drewN nq = w3 at *
  clear hwn
  clear cq1 cq2 cq3 cq4
  replace B0 := Hi (Ex.trans B0.out xx)
  clear xx
  go_wp2_with fail
  go_ret
  exact ⟨26, rfl, fun _ => HEV.out, fun h => absurd HOR.out h, B0.out⟩
 have H2 := Hi h2
 clear h2
 by_cases h3 : q.ep = x.ep
 ·have HEV : Hid (0 = E1) := Hi (by rw [HE1.out, if_pos ⟨H2.out, h3⟩])
  have H3 := Hi h3
  clear h3
  go_wp2_with fail
  have cq1 := (HR9.out _ (Ex.refl _)).1
  have cq2 := (HC4.out _ (Ex.refl _)).1
  have cq3 := (HC4.out _ (Ex.refl _)).2
  have cq4 := (HR9.out _ (Ex.refl _)).2.2.1
  rw [H2.out] at cq2
  rw [H3.out] at cq3
  go_quiet (fail)
  have xx : Ex w2 (w2.drewN nq) := ex_drewN w2 nq
  generalize hwn : w2.drewN nq = w3 at *
  clear hwn
  clear cq1 cq2 cq3 cq4
  replace B0 := Hi (Ex.trans B0.out xx)
  clear xx
  go_wp2_with fail
  go_ret
  exact ⟨0, rfl, fun _ => HEV.out, fun h => absurd HOR.out h, B0.out⟩
 have HEV : Hid (26 = E1) := Hi (by rw [HE1.out, if_neg (fun h => h3 h.2)])
 have H3 := Hi h3
 clear h3
 go_wp2_with fail
 have cq1 := (HR9.out _ (Ex.refl _)).1
 have cq2 := (HC4.out _ (Ex.refl _)).1
 have cq3 := (HC4.out _ (Ex.refl _)).2
 have cq4 := (HR9.out _ (Ex.refl _)).2.2.1
 rw [H2.out] at cq2
 have hcf := H3.out
 go_quiet (fail)
 have xx : Ex w2 (w2.drewN nq) := ex_drewN w2 nq
 generalize hwn : w2.drewN nq = w3 at *
 clear hwn
 clear cq1 cq2 cq3 cq4
 replace B0 := Hi (Ex.trans B0.out xx)
 clear xx
 go_wp2_with fail
 go_ret
 exact ⟨26, rfl, fun _ => HEV.out, fun h => absurd HOR.out h, B0.out⟩
theorem rcheck_none (w0 : World) (M : Nat) (m n : Int) (p : Nat → Pa) (R : Nat → Value) (xs : Nat → List Vt) (x : Rk) (hk : ¬ (x.kind = 1 ∨ x.kind = 2 ∨ x.kind = 3 ∨ x.kind = 4)) (w : World) (hx : x.In w) (h : RS w0 w M m n p R xs) : Calls Try.prog 53 #[.pointer (some ⟨M, 0, none⟩), x.V] w fun e w' => e = .returned (.int .i64 1) ∧ Ex w w' := by
 obtain ⟨cs, hcs⟩ : ∃ cs, cs = x.C.toArray := ⟨_, rfl⟩
 have A0 : Hid (KB9 (w.alloc (.cells cs 39)) w.heap.size x) := Hi ⟨hx.v.ok, by rw [hcs]; exact Bk.new rfl _ _⟩
 have B0 : Hid (Ex w (w.alloc (.cells cs 39))) := Hi (Ex.alloc _ _)
 have HS := Hi (h.ext B0.out)
 rw [show (Calls Try.prog 53 #[.pointer (some ⟨M, 0, none⟩), x.V] w) = (Calls Try.prog 53 #[.pointer (some ⟨M, 0, none⟩), .agg cs] w) by rw [hcs]; rfl]
 have HX := Hi hx
 clear hcs hx h
 have HK := Hi hk
 go_enter Try.func53, Try.ntmps53
 go_wp2_with (first | ((with_reducible refine so0 ?_ ?_); (focus rfl)) | ((with_reducible refine so4 [39] ?_ ?_); (focus rfl)))
 (with_reducible refine ⟨?_⟩)
 change wpList _ _ _ _ _ (w.alloc (.cells cs 39))
 generalize hw1 : w.alloc (.cells cs 39) = w1 at *
 clear hw1
 obtain ⟨B, hB⟩ : ∃ B, B = w.heap.size := ⟨_, rfl⟩
 rw [← hB] at A0 ⊢
 have HB := Hi hB
 clear hB
 (with_reducible refine at_any ?_ ?_); (focus go_simp); refine fun K0 hK => ld_rk _ B x rfl rfl A0.out (hK _ _ ?_)
 clear hK
 go_wp2_with fail
 refine (rrr_none x HK.out w1 (HX.out.ext B0.out)).mono ?_
 rintro e w2 ⟨rfl, x2⟩
 replace B0 := Hi (Ex.trans B0.out x2)
 clear x2
 go_wp2_with fail
 go_ret
 exact ⟨rfl, B0.out⟩
theorem rcheck_in (w0 : World) (M : Nat) (m n : Int) (p : Nat → Pa) (R : Nat → Value) (xs : Nat → List Vt) (x : Rk) (hk : x.kind = 3) (E1 : Int) (hE1 : AllOf x.l (x.shard.toNat : Int) → E1 = inE (p x.shard.toNat) x.ep) (hE2 : ¬ AllOf x.l (x.shard.toNat : Int) → E1 = 1) (w : World) (hx : x.In w) (h : RS w0 w M m n p R xs) : Calls Try.prog 53 #[.pointer (some ⟨M, 0, none⟩), x.V] w (SCPost x.inR E1 w) := by
 have HE1 := Hi hE1
 have HE2 := Hi hE2
 clear hE1 hE2
 obtain ⟨cs, hcs⟩ : ∃ cs, cs = x.C.toArray := ⟨_, rfl⟩
 have A0 : Hid (KB9 (w.alloc (.cells cs 39)) w.heap.size x) := Hi ⟨hx.v.ok, by rw [hcs]; exact Bk.new rfl _ _⟩
 have B0 : Hid (Ex w (w.alloc (.cells cs 39))) := Hi (Ex.alloc _ _)
 have HS := Hi (h.ext B0.out)
 rw [show (Calls Try.prog 53 #[.pointer (some ⟨M, 0, none⟩), x.V] w) = (Calls Try.prog 53 #[.pointer (some ⟨M, 0, none⟩), .agg cs] w) by rw [hcs]; rfl]
 have HX := Hi hx
 clear hcs hx h
 have HK := Hi hk
 go_enter Try.func53, Try.ntmps53
 have HP := Hi HS.out
 go_wp2_with (first | ((with_reducible refine so0 ?_ ?_); (focus rfl)) | ((with_reducible refine so4 [39] ?_ ?_); (focus rfl)))
 (with_reducible refine ⟨?_⟩)
 change wpList _ _ _ _ _ (w.alloc (.cells cs 39))
 generalize hw1 : w.alloc (.cells cs 39) = w1 at *
 clear hw1
 obtain ⟨B, hB⟩ : ∃ B, B = w.heap.size := ⟨_, rfl⟩
 rw [← hB] at A0 ⊢
 have HB := Hi hB
 clear hB
 (with_reducible refine at_any ?_ ?_); (focus go_simp); refine fun K0 hK => ld_rk _ B x rfl rfl A0.out (hK _ _ ?_)
 clear hK
 go_wp2_with fail
 refine (rrr_in x HK.out w1 (HX.out.ext B0.out)).mono ?_
 rintro e w2 ⟨b9, rfl, hb, x2⟩
 replace A0 := Hi (A0.out.ext x2)
 replace B0 := Hi (Ex.trans B0.out x2)
 have HBR := Hi hb
 have HP2 := Hi (HS.out.ext x2)
 clear hb x2
 have c0 : w2.cell? ⟨B, 0, none⟩ = some (.int .i64 3) := by rw [← HK.out]; exact A0.out.cells.1
 cases b9
 ·skip
  go_wp2_with fail
  go_ret
  exact ⟨1, rfl, fun h => absurd (HBR.out.2 h) (by simp), fun _ => rfl, B0.out⟩
 have HOR : Hid x.inR := Hi (HBR.out.1 (by simp))
 have hsh : x.shard = ((x.shard.toNat : Nat) : Int) := by have := HOR.out.1.1; omega
 have hs16 : x.shard.toNat < 16 := by have := HOR.out.1.2.1; omega
 obtain ⟨s, hs⟩ : ∃ s, s = x.shard.toNat := ⟨_, rfl⟩
 rw [← hs] at hsh hs16
 rw [← hs] at HE1 HE2
 obtain ⟨q, hq⟩ : ∃ q, q = p s := ⟨_, rfl⟩
 rw [← hq] at HE1
 have qs0 : (0 : Int) ≤ (s : Int) := by omega
 have qs1 : (s : Int) < 16 := by omega
 have HSS := Hi hsh
 have HQ := Hi hq
 clear hsh hs hq
 obtain ⟨nn, hn⟩ : ∃ n, n = x.l.length := ⟨_, rfl⟩
 have HNN := Hi hn
 have hn4 : nn ≤ 4 := by rw [hn]; exact HOR.out.2.2.1
 clear hn
 have HC4 := Hi (show ∀ wz, Ex w2 wz → wz.cell? ⟨M, 2 + s * 4, none⟩ = some (.int .i64 q.role) ∧ wz.cell? ⟨M, 2 + s * 4 + 1, none⟩ = some (.int .u64 q.ep) from fun wz e => by rw [HQ.out]; exact ⟨((HP2.out.ext e).cells hs16).1, ((HP2.out.ext e).cells hs16).2.1⟩)
 have HH := Hi (show ∀ wz, Ex w2 wz → wz.cell? ⟨M, 0, none⟩ = some (.int .i64 m) ∧ wz.cell? ⟨M, 1, none⟩ = some (.int .i64 n) from fun wz e => (HP2.out.ext e).heads)
 have HR9 := Hi (show ∀ wz, Ex w2 wz → wz.cell? ⟨B, 1, none⟩ = some (.int .i64 (s : Int)) ∧ wz.cell? ⟨B, 2, none⟩ = some (.int .i64 x.tw) ∧ wz.cell? ⟨B, 3, none⟩ = some (.int .u64 x.ep) ∧ wz.cell? ⟨B, 46, none⟩ = some (.slice x.ad nn x.cap) from fun wz e => ⟨by rw [← HSS.out]; exact (A0.out.ext e).cells.2.1, (A0.out.ext e).cells.2.2.1, (A0.out.ext e).cells.2.2.2.1, by rw [HNN.out]; exact (A0.out.ext e).cells.2.2.2.2⟩)
 have HXI := Hi (HX.out.ext B0.out)
 have BB2 := Hi (show Ex w w2 from B0.out)
 go_wp2_with fail
 go_loopw [9] (fun i wr => ∃ k : Nat, k ≤ nn ∧ i = .int .i64 k ∧ Hid (∀ y ∈ x.l.take k, Sm.shV y.id = (s : Int)) ∧ Hid (Ex w2 wr)) (fun i _ => nn - (intOf i).toNat)
 case atStart => exact ⟨0, by omega, rfl, Hi (fun y hy => by simp at hy), Hi (Ex.refl _)⟩
 obtain ⟨k, hk9, rfl, OK, BX⟩ := hrel
 have c46 := (HR9.out _ BX.out).2.2.2
 by_cases hlt : k < nn
 rotate_left
 ·skip
  obtain rfl : k = nn := by omega
  have q1 : ¬ (k : Int) < (k : Int) := by omega
  have HEI : Hid (E1 = inE q x.ep) := Hi (HE1.out (fun y hy => OK.out y (by rw [List.take_of_length_le (by rw [← HNN.out]; exact Nat.le_refl _)]; exact hy)))
  go_wp2_with fail
  clear c46
  by_cases h1 : q.role = 1
  ·have HEV : Hid (26 = E1) := Hi (by rw [HEI.out]; unfold inE; rw [if_pos h1])
   have H1 := Hi h1
   clear h1
   have cq1 := (HR9.out _ BX.out).1
   have cq2 := (HC4.out _ BX.out).1
   rw [H1.out] at cq2
   go_quiet (fail)
   have xx : Ex wr (wr.drewN nq) := ex_drewN wr nq
   generalize hwn : wr.drewN nq = w5 at *
   clear hwn
   clear cq1 cq2
   replace BX := Hi (Ex.trans BX.out xx)
   clear xx
   replace B0 := Hi (Ex.trans B0.out BX.out)
   go_wp2_with fail
   go_ret
   exact ⟨26, rfl, fun _ => HEV.out, fun h => absurd HOR.out h, B0.out⟩
  have H1 := Hi h1
  clear h1
  have cq1 := (HR9.out _ BX.out).1
  have cq2 := (HC4.out _ BX.out).1
  have hcf := H1.out
  go_quiet (fail)
  have xx : Ex wr (wr.drewN nq) := ex_drewN wr nq
  generalize hwn : wr.drewN nq = w5 at *
  clear hwn
  clear cq1 cq2
  replace BX := Hi (Ex.trans BX.out xx)
  clear xx
  go_wp2_with fail
  by_cases h9 : x.ep ≤ q.ep
  ·have HEV : Hid (31 = E1) := Hi (by rw [HEI.out]; unfold inE; rw [if_neg H1.out, if_pos h9])
   have cq1 := (HR9.out _ BX.out).1
   have cq2 := (HR9.out _ BX.out).2.2.1
   have cq3 := (HC4.out _ BX.out).2
   go_quiet (fail)
   have xx : Ex w5 (w5.drewN nq) := ex_drewN w5 nq
   generalize hwn : w5.drewN nq = w6 at *
   clear hwn
   clear cq1 cq2 cq3
   replace B0 := Hi (Ex.trans B0.out (Ex.trans BX.out xx))
   clear xx
   go_wp2_with fail
   go_ret
   exact ⟨31, rfl, fun _ => HEV.out, fun h => absurd HOR.out h, B0.out⟩
  have HEV : Hid (0 = E1) := Hi (by rw [HEI.out]; unfold inE; rw [if_neg H1.out, if_neg h9])
  have cq1 := (HR9.out _ BX.out).1
  have cq2 := (HR9.out _ BX.out).2.2.1
  have cq3 := (HC4.out _ BX.out).2
  go_quiet (fail)
  have xx : Ex w5 (w5.drewN nq) := ex_drewN w5 nq
  generalize hwn : w5.drewN nq = w6 at *
  clear hwn
  clear cq1 cq2 cq3
  replace B0 := Hi (Ex.trans B0.out (Ex.trans BX.out xx))
  clear xx
  go_wp2_with fail
  go_ret
  exact ⟨0, rfl, fun _ => HEV.out, fun h => absurd HOR.out h, B0.out⟩
 skip
 have q0 : (0 : Int) ≤ (k : Int) := by omega
 have q1 : (k : Int) < (nn : Int) := by omega
 obtain ⟨y, hy⟩ : ∃ z, x.l[k]? = some z := ⟨_, List.getElem?_eq_getElem (by rw [← HNN.out]; exact hlt)⟩
 obtain ⟨ab, o, had, hab, hra⟩ := (HXI.out.ext BX.out).inn.read (by rw [← HNN.out]; omega)
 have YO := Hi (HXI.out.inn.ok k y hy)
 have YR : Hid (wr.rangeAt ab (o + k * 42) y.C) := Hi (hra k y hy)
 have HY := Hi hy
 have HAB := Hi hab
 have HRL := Hi (show ∀ wz, Ex w2 wz → wz.cell? ⟨B, 46, none⟩ = some (.slice (some ⟨ab, o, none⟩) nn x.cap) from fun wz e => by rw [← had]; exact (HR9.out _ e).2.2.2)
 have c47 := HRL.out _ BX.out
 clear hra hy hab had c46
 go_wp2_with fail
 by_cases hys : Sm.shV y.id = (s : Int)
 ·have HYS := Hi hys
  clear hys
  have hS0 : ∀ (listed : Array Bool) (f : Nat → Value), (∀ i, listed.getD i false = false) → Ex wr wr.drew := fun _ _ _ => (Below.refl wr.heap.size wr).drew
  obtain ⟨T, hT⟩ : ∃ T : List (Value → Prop), T = [(fun zz => zz = .pointer (some ⟨B, 46, none⟩)), (fun zz => zz = .slice (some ⟨ab, o, none⟩) nn x.cap), (fun zz => zz = .int .i64 (k : Int)), (fun zz => zz = .pointer (some ⟨ab, o + k * 42, none⟩)), (fun zz => zz = .pointer (some ⟨ab, o + k * 42, none⟩)), (fun zz => zz = digV y.id), (fun zz => zz = .int .i64 (Sm.shV y.id)), (fun zz => zz = .pointer (some ⟨B, 1, none⟩)), (fun zz => zz = .int .i64 (s : Int)), (fun zz => zz = .bool false)] := ⟨_, rfl⟩
  refine wp_region_gen (JS T ([] : List (Nat × Nat)) (fun _ _ wz => Ex wr wz)) (by kernel_rfl) (by kernel_rfl) (by kernel_rfl) (fitB_spec (by kernel_rfl)) (fun listed f h => JS.start listed f h (hS0 listed f h)) ?_ ?_
  ·intro i o ho
   have hi : i < 10 := (Array.getElem?_eq_some_iff.1 ho).1
   have hi' : i = 0 ∨ i = 1 ∨ i = 2 ∨ i = 3 ∨ i = 4 ∨ i = 5 ∨ i = 6 ∨ i = 7 ∨ i = 8 ∨ i = 9 := by omega
   clear hi
   rcases hi' with rfl | rfl | rfl | rfl | rfl | rfl | rfl | rfl | rfl | rfl
   all_goals (simp only [List.getElem?_toArray, List.getElem?_cons_zero, List.getElem?_cons_succ, Option.some.injEq] at ho; subst ho; intro listed f a w5 hJ hsz hls hun hdep hout hlat; first | (rw [if_pos (by rfl)]; intro K hK) | skip)
   ·have q3 := hout 3 ob
    rw [gd9] at q3
    clear hsz hdep hout hlat
    go_simp
    exact hK _ _ (hJ.nx hls hT rfl rfl hJ.st nh)
   ·have q90 := hJ.iq hT (hdep ⟨0, .data⟩ (by simp) rfl) rfl _ rfl _ rfl
    have cc := (HRL.out _ (Ex.trans BX.out hJ.st))
    clear hsz hdep hout hlat
    go_simp
    exact hK _ _ (hJ.nx hls hT rfl rfl hJ.st nh)
   ·have q9 := hout 9 ob
    exact wp_mw _ rfl q9 (hK _ _ (hJ.nx hls hT rfl rfl hJ.st nh))
   ·have q91 := hJ.iq hT (hdep ⟨1, .data⟩ (by simp) rfl) rfl _ rfl _ rfl
    have q92 := hJ.iq hT (hdep ⟨2, .data⟩ (by simp) rfl) rfl _ rfl _ rfl
    clear hsz hdep hout hlat
    go_simp
    exact hK _ _ (hJ.nx hls hT rfl rfl hJ.st nh)
   ·have q93 := hJ.iq hT (hdep ⟨3, .data⟩ (by simp) rfl) rfl _ rfl _ rfl
    clear hsz hdep hout hlat
    go_simp
    exact hK _ _ (hJ.nx hls hT rfl rfl hJ.st nh)
   ·have q94 := hJ.is hT (hdep ⟨4, .data⟩ (by simp) rfl) rfl _ rfl _ rfl
    exact ld_vid9 _ ab (o + k * 42) y YO.out rfl q94 (range_ex YR.out hJ.st HAB.out) (hK _ _ (hJ.nx hls hT rfl rfl hJ.st nh))
   ·have q95 := hJ.iq hT (hdep ⟨5, .data⟩ (by simp) rfl) rfl _ rfl _ rfl
    clear hsz hdep hout hlat
    go_simp
    refine (Sm.rof_any y.id YO.out.idN w5).mono ?_
    rintro e wq ⟨rfl, xq⟩
    exact hK _ _ (hJ.nx hls hT rfl rfl (Ex.trans hJ.st xq) nh)
   ·have q3 := hout 3 ob
    rw [gd9] at q3
    clear hsz hdep hout hlat
    go_simp
    exact hK _ _ (hJ.nx hls hT rfl rfl hJ.st nh)
   ·have q97 := hJ.iq hT (hdep ⟨7, .data⟩ (by simp) rfl) rfl _ rfl _ rfl
    have cc := (HR9.out _ (Ex.trans BX.out hJ.st)).1
    clear hsz hdep hout hlat
    go_simp
    exact hK _ _ (hJ.nx hls hT rfl rfl hJ.st nh)
   have q96 := hJ.iq hT (hdep ⟨6, .data⟩ (by simp) rfl) rfl _ rfl _ rfl
   have q98 := hJ.iq hT (hdep ⟨8, .data⟩ (by simp) rfl) rfl _ rfl _ rfl
   have hcf := HYS.out
   clear hsz hdep hout hlat
   go_simp
   exact hK _ _ (hJ.nx hls hT rfl (by first | rfl | simp [hcf]) hJ.st nh)
  intro listed f w5 hall hJ
  have f9 := hJ.fa hT (hall 9 (by simp)) rfl
  have hst := hJ.st
  simp only [putAll, Act.put, List.setIfInBounds_toArray, List.set_cons_zero, List.set_cons_succ, Nat.zero_add, Nat.reduceAdd]
  have xx : Ex wr w5 := hst
  rw [f9]
  clear f9
  clear hJ hall hT
  clear hst hS0
  replace BX := Hi (Ex.trans BX.out xx)
  clear xx YR HAB HRL c47
  go_wp2_with fail
  (first | (refine ⟨?_, ?measure⟩; (repeat apply Exists.intro); refine ⟨?rel, rfl⟩) | refine ⟨?rel, ?measure⟩)
  case rel => exact ⟨k + 1, by omega, by go_num, Hi (fun z hz => by
         rw [List.take_add_one, HY.out, List.mem_append] at hz
         rcases hz with hz | hz
         ·exact OK.out z hz
         ·simp at hz; rw [hz]; exact HYS.out), BX⟩
  case measure => simp [intOf]; omega
 have HYS := Hi hys
 have HEV : Hid (1 = E1) := Hi ((HE2.out (fun h => hys (h y (List.mem_of_getElem? HY.out)))).symm)
 clear hys
 have hS0 : ∀ (listed : Array Bool) (f : Nat → Value), (∀ i, listed.getD i false = false) → Ex wr wr.drew := fun _ _ _ => (Below.refl wr.heap.size wr).drew
 obtain ⟨T, hT⟩ : ∃ T : List (Value → Prop), T = [(fun zz => zz = .pointer (some ⟨B, 46, none⟩)), (fun zz => zz = .slice (some ⟨ab, o, none⟩) nn x.cap), (fun zz => zz = .int .i64 (k : Int)), (fun zz => zz = .pointer (some ⟨ab, o + k * 42, none⟩)), (fun zz => zz = .pointer (some ⟨ab, o + k * 42, none⟩)), (fun zz => zz = digV y.id), (fun zz => zz = .int .i64 (Sm.shV y.id)), (fun zz => zz = .pointer (some ⟨B, 1, none⟩)), (fun zz => zz = .int .i64 (s : Int)), (fun zz => zz = .bool true)] := ⟨_, rfl⟩
 refine wp_region_gen (JS T ([] : List (Nat × Nat)) (fun _ _ wz => Ex wr wz)) (by kernel_rfl) (by kernel_rfl) (by kernel_rfl) (fitB_spec (by kernel_rfl)) (fun listed f h => JS.start listed f h (hS0 listed f h)) ?_ ?_
 ·intro i o ho
  have hi : i < 10 := (Array.getElem?_eq_some_iff.1 ho).1
  have hi' : i = 0 ∨ i = 1 ∨ i = 2 ∨ i = 3 ∨ i = 4 ∨ i = 5 ∨ i = 6 ∨ i = 7 ∨ i = 8 ∨ i = 9 := by omega
  clear hi
  rcases hi' with rfl | rfl | rfl | rfl | rfl | rfl | rfl | rfl | rfl | rfl
  all_goals (simp only [List.getElem?_toArray, List.getElem?_cons_zero, List.getElem?_cons_succ, Option.some.injEq] at ho; subst ho; intro listed f a w5 hJ hsz hls hun hdep hout hlat; first | (rw [if_pos (by rfl)]; intro K hK) | skip)
  ·have q3 := hout 3 ob
   rw [gd9] at q3
   clear hsz hdep hout hlat
   go_simp
   exact hK _ _ (hJ.nx hls hT rfl rfl hJ.st nh)
  ·have q90 := hJ.iq hT (hdep ⟨0, .data⟩ (by simp) rfl) rfl _ rfl _ rfl
   have cc := (HRL.out _ (Ex.trans BX.out hJ.st))
   clear hsz hdep hout hlat
   go_simp
   exact hK _ _ (hJ.nx hls hT rfl rfl hJ.st nh)
  ·have q9 := hout 9 ob
   exact wp_mw _ rfl q9 (hK _ _ (hJ.nx hls hT rfl rfl hJ.st nh))
  ·have q91 := hJ.iq hT (hdep ⟨1, .data⟩ (by simp) rfl) rfl _ rfl _ rfl
   have q92 := hJ.iq hT (hdep ⟨2, .data⟩ (by simp) rfl) rfl _ rfl _ rfl
   clear hsz hdep hout hlat
   go_simp
   exact hK _ _ (hJ.nx hls hT rfl rfl hJ.st nh)
  ·have q93 := hJ.iq hT (hdep ⟨3, .data⟩ (by simp) rfl) rfl _ rfl _ rfl
   clear hsz hdep hout hlat
   go_simp
   exact hK _ _ (hJ.nx hls hT rfl rfl hJ.st nh)
  ·have q94 := hJ.is hT (hdep ⟨4, .data⟩ (by simp) rfl) rfl _ rfl _ rfl
   exact ld_vid9 _ ab (o + k * 42) y YO.out rfl q94 (range_ex YR.out hJ.st HAB.out) (hK _ _ (hJ.nx hls hT rfl rfl hJ.st nh))
  ·have q95 := hJ.iq hT (hdep ⟨5, .data⟩ (by simp) rfl) rfl _ rfl _ rfl
   clear hsz hdep hout hlat
   go_simp
   refine (Sm.rof_any y.id YO.out.idN w5).mono ?_
   rintro e wq ⟨rfl, xq⟩
   exact hK _ _ (hJ.nx hls hT rfl rfl (Ex.trans hJ.st xq) nh)
  ·have q3 := hout 3 ob
   rw [gd9] at q3
   clear hsz hdep hout hlat
   go_simp
   exact hK _ _ (hJ.nx hls hT rfl rfl hJ.st nh)
  ·have q97 := hJ.iq hT (hdep ⟨7, .data⟩ (by simp) rfl) rfl _ rfl _ rfl
   have cc := (HR9.out _ (Ex.trans BX.out hJ.st)).1
   clear hsz hdep hout hlat
   go_simp
   exact hK _ _ (hJ.nx hls hT rfl rfl hJ.st nh)
  have q96 := hJ.iq hT (hdep ⟨6, .data⟩ (by simp) rfl) rfl _ rfl _ rfl
  have q98 := hJ.iq hT (hdep ⟨8, .data⟩ (by simp) rfl) rfl _ rfl _ rfl
  have hcf := HYS.out
  clear hsz hdep hout hlat
  go_simp
  exact hK _ _ (hJ.nx hls hT rfl (by first | rfl | simp [hcf]) hJ.st nh)
 intro listed f w5 hall hJ
 have f9 := hJ.fa hT (hall 9 (by simp)) rfl
 have hst := hJ.st
 simp only [putAll, Act.put, List.setIfInBounds_toArray, List.set_cons_zero, List.set_cons_succ, Nat.zero_add, Nat.reduceAdd]
 have xx : Ex wr w5 := hst
 rw [f9]
 clear f9
 clear hJ hall hT
 clear hst hS0
 replace BX := Hi (Ex.trans BX.out xx)
 clear xx YR HAB HRL c47
 replace B0 := Hi (Ex.trans B0.out BX.out)
 go_wp2_with fail
 go_ret
 exact ⟨1, rfl, fun _ => HEV.out, fun h => absurd HOR.out h, B0.out⟩
end Go.Proofs.Ytmjfnpmnhehnkaa
