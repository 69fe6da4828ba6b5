/- MVeF -/
import Derived.Test.YtopamplmpfndlaaEat
set_option maxRecDepth 100000
set_option maxHeartbeats 16000000
namespace Go.Proofs.Ytopamplmpfndlaa.Sm
open Go.RowKit
theorem own_run0 {w : World} (ty : TypeId) (B : Nat) (v : Value) (l : List UInt8) (ow : ownU w B v l) (q : Pt) (hq : q.In w w.heap.size) (hB : B ≤ w.heap.size) (hN : l.length + q.l.length ≤ 100000000000000) :
  ∃ v' w', (Builtin.append_ #[23, 23] ty #[v, q.V]).run Try.prog w = .ok v' w' ∧ ownU w' B v' (l ++ q.l) ∧ Below B w w' := by
 by_cases hq0 : 0 < q.l.length
 ·exact own_run ty B v l ow q hq hB hN hq0
 have hz : q.l = [] := List.eq_nil_of_length_eq_zero (by omega)
 obtain ⟨i0, hi0, hz0, hz1, hz2⟩ := info_parts sm_u8
 cases had : q.ad with
 | none =>
  have hc := hq.nil had
  have hV : q.V = .slice none 0 0 := by unfold Pt.V; rw [had, hz, hc]; rfl
  rw [hV]
  refine ⟨v, w, run_append_owned_none w B 23 ty 5 i0 1 Try.underlying23 hi0 v _ _ ow, ?_, Below.refl _ _⟩
  rw [hz, List.append_nil]; exact ow
 | some aq =>
  have hV : q.V = .slice (some aq) 0 q.cap := by unfold Pt.V; rw [had, hz]; rfl
  rw [hV]
  obtain ⟨v', w', hr, r1, r2, _⟩ := run_append_own (P := Try.prog) w B 23 ty 5 i0 _ 1 1 Try.underlying23 hi0 hz0 hz1 hz2 rfl (by omega) v _ _ ow aq 0 q.cap [] (by simp) (fun j u hu => by simp at hu) (fun u hu => by simp at hu) (by unfold maxLen; omega) (by omega) hB
  refine ⟨v', w', hr, ?_, (Below.refl _ _).grown r2 hB (fun k hk => (World.ownsRow.lt ow k hk).1)⟩
  unfold ownU
  rw [hz, List.append_nil]
  simpa using r1
theorem wp_app_own0 {o : Oper} {a : Act} {w : World} {K : Act → World → Prop} {Q : Exit → Act → World → Prop} (s x : Operand)
  (hop : o.op = .call { callee := .builtin .append, args := #[s, x], argTypes := #[23, 23] }) (B : Nat) (v : Value) (l : List UInt8) (q : Pt) (hs : a.eval s = v) (hx : a.eval x = q.V)
  (ow : ownU w B v l) (hq : q.In w w.heap.size) (hB : B ≤ w.heap.size) (hN : l.length + q.l.length ≤ 100000000000000)
  (h : ∀ v' w', ownU w' B v' (l ++ q.l) → Below B w w' → K (a.put o.dst v') w') : o.wp Try.prog a w K Q := by
 obtain ⟨v', w', hrun, r1, r2⟩ := own_run0 o.type B v l ow q hq hB hN
 unfold Oper.wp
 simp [execOp, hop, resolve, invoke, builtin, hs, hx, hrun, Result.andThen]
 exact h v' w' r1 r2
theorem pt_takeW (p : Pt) (n : Nat) (w : World) {B : Nat} (hp : p.In w B) (hn : n ≤ p.l.length) : (Pt.mk p.ad p.cap (p.l.take n)).In w B := by
 have hl : (p.l.take n).length = n := by rw [List.length_take]; omega
 refine ⟨by simp only [hl]; have := hp.cap; omega, hp.nil, fun h0 => ?_⟩
 simp only [hl] at h0 ⊢
 obtain ⟨a, o, e, ha, hcc⟩ := hp.read (by omega)
 refine ⟨a, o, e, ha, fun i hi => ?_⟩
 rw [hcc i (by omega)]
 simp [List.getD, List.getElem?_take, hi]
theorem db_take {w : World} {g : Nat} {X : List UInt8} (h : DB w g X) (o : Obj) : (Pt.mk (some ⟨g, 0, none⟩) 16 (X.take 8)).In (w.alloc o) (w.alloc o).heap.size := by
 have k := pt_takeW _ 8 w h.pt (by show 8 ≤ X.length; rw [h.1]; omega)
 exact k.ext ((Below.refl _ _).alloc (Nat.le_refl _) _)
theorem own_empty (w : World) (B : Nat) (hB : B ≤ w.heap.size) : ownU (w.alloc (.cells #[] 5)) B (.slice (some ⟨w.heap.size, 0, none⟩) 0 0) [] := by
 have h := World.ownsRow_lit (base := B) (e := 5) (size := 1) w #[] 0 hB (Nat.zero_le _) rfl
 exact h
theorem own_num {w : World} {g : Nat} (n : Int) (h : Bk w g 5 (numC n)) : ownU w g (.slice (some ⟨g, 0, none⟩) 8 8) (numL n) := by
 rw [← numL_C] at h
 exact ⟨by rfl, .inr ⟨g, 8, (Lib.byteCells (numL n)).toArray, rfl, Nat.le_refl _, h, Nat.le_refl _, by unfold maxLen; omega, rfl, by rfl⟩⟩
theorem hid_comm (Z b : List UInt8) (h : Z.length = b.length) : hidL Z b = hidL b Z := by
 unfold hidL
 rw [h]
 exact List.map_congr_left fun i _ => UInt8.xor_comm _ _
theorem xored_any (kl : List UInt8) (hk : kl.length = 16) (n : Int) (n0 : 0 ≤ n) (n1 : n < 18446744073709551616) (p : Pt) (w : World) (hp : p.In w w.heap.size) (hm : p.l.length ≤ 8192) :
  Calls Try.prog 105 #[digV kl, .int .u64 n, p.V] w (OwnPost (hidL (streamL kl n p.l.length) p.l) w) := by
 obtain ⟨cs, hcs⟩ : ∃ cs, cs = (Lib.byteCells kl).toArray := ⟨_, rfl⟩
 have hv : digV kl = .agg cs := by rw [hcs]; rfl
 have A1 : Hid (DB (w.alloc (.cells cs 36)) w.heap.size kl) := by rw [hcs]; exact Lib.hid (DB.new rfl hk)
 have bw : Below w.heap.size w (w.alloc (.cells cs 36)) := (Below.refl _ _).alloc (Nat.le_refl _) _
 have bz : w.heap.size + 1 ≤ (w.alloc (.cells cs 36)).heap.size := by simp
 obtain ⟨m, hm'⟩ : ∃ m, m = p.l.length := ⟨_, rfl⟩
 have HM := Lib.hid hm'
 rw [← hm'] at hm ⊢
 obtain ⟨Z, hZ⟩ : ∃ Z, Z = streamL kl n m := ⟨_, rfl⟩
 have ST := Lib.hid (fun W => by have h := rstream_any kl hk n n0 n1 m hm W; rw [← hZ] at h; exact h)
 have HZ := Lib.hid (show Z.length = m by rw [hZ, strm_len])
 rw [← hZ, hid_comm Z p.l (by rw [HZ.out, hm'])]
 obtain ⟨pad, hpad⟩ : ∃ x, x = p.ad := ⟨_, rfl⟩
 have hpv : p.V = .slice pad m p.cap := by unfold Pt.V; rw [hm', hpad]
 have HPA := Lib.hid hpad
 have HP := Lib.hid hp
 have HPV := Lib.hid hpv
 rw [hv, hpv]
 clear hv hcs hm' hpad hpv hp hk hZ
 go_enter Try.func105, Try.ntmps105
 go_wp2_with ((with_reducible refine at_any ?_ ?_); (focus go_simp); (refine fun K hK => wp_ld _ _ kl rfl rfl A1.out (hK _ _ ?_)))
 obtain ⟨w1, hw1⟩ : ∃ w1, w1 = w.alloc (.cells cs 36) := ⟨_, rfl⟩
 rw [← hw1] at A1 bw bz ⊢
 clear hw1
 refine (ST.out _).mono ?_
 rintro e w2 ⟨r, rfl, rl, ri, hx⟩
 have bw2 : Below w.heap.size w w2 := bw.trans (hx.mono bw.size)
 have bz2 : w.heap.size + 1 ≤ w2.heap.size := by have := hx.size; omega
 have hrv : r.V = .slice r.ad m r.cap := by unfold Pt.V; rw [rl, HZ.out]
 rw [hrv]
 have RL := Lib.hid rl
 have RI := Lib.hid ri
 have HRV := Lib.hid hrv
 have xe : Ex w2 (w2.alloc (.cells #[] 5)) := (Below.refl _ _).alloc (Nat.le_refl _) _
 have OE := Lib.hid (own_empty w2 w2.heap.size (Nat.le_refl _))
 have PE := Lib.hid ((HP.out.ext bw2).ext xe)
 have bze : w2.heap.size ≤ (w2.alloc (.cells #[] 5)).heap.size := xe.size
 have hpm : p.l.length ≤ 8192 := by rw [← HM.out]; exact hm
 have XE := Lib.hid xe
 clear hrv rl ri A1 ST hx bw bz xe
 go_wp2_with ((with_reducible refine at_any ?_ ?_); (focus go_simp); (refine fun K hK => wp_app_own0 (.tmp 15) (.tmp 16) rfl w2.heap.size _ [] p rfl HPV.out.symm OE.out PE.out bze (by simp; omega) (fun v4 w4 o4 b4 => hK _ _ ?_)))
 rw [List.nil_append] at o4
 have x4 : Ex w2 w4 := Below.trans XE.out b4
 obtain ⟨q, rfl, ql, _⟩ := own_pt0 o4
 have hqv : q.V = .slice q.ad m q.cap := by unfold Pt.V; rw [ql, HM.out]
 rw [hqv] at o4 ⊢
 obtain ⟨ad, had⟩ : ∃ x, x = q.ad := ⟨_, rfl⟩
 obtain ⟨c, hc⟩ : ∃ x, x = q.cap := ⟨_, rfl⟩
 rw [← had, ← hc] at o4 ⊢
 have OW := Lib.hid o4
 clear had hc hqv ql o4 b4 OE PE bze XE hK
 go_wp2_with fail
 go_loopw [9] (fun i wr => ∃ j : Nat, j ≤ m ∧ i = .int .i64 j ∧ Hid (ownU wr w2.heap.size (.slice ad m c) (hidJ p.l Z j)) ∧ Ex w2 wr) (fun i _ => m - (intOf i).toNat)
 case atStart => exact ⟨0, by omega, rfl, by rw [hidJ_zero]; exact OW, x4⟩
 clear OW x4
 obtain ⟨j, hj, rfl, own, xr⟩ := hrel
 by_cases hlt : j < m
 rotate_left
 ·obtain rfl : j = m := by omega
  go_wp2_with fail
  go_ret
  have k := own.out
  have e := hidJ_end p.l Z
  rw [← HM.out] at e
  rw [e] at k
  exact ⟨_, rfl, own_less k bw2.size, bw2.trans (xr.mono bw2.size)⟩
 obtain ⟨g, c', e, hBg, hg, hc'⟩ := own_slice own.out (by rw [hidJ_len, ← HM.out]; omega)
 injection e with e1 e2 e3
 subst e3
 have own1 := own.out
 rw [e1] at own1 ⊢
 obtain ⟨k1, f1⟩ := own_at own1 (by rw [hidJ_len, ← HM.out]) j hlt
 rw [hidJ_at _ _ _ (by rw [← HM.out]; exact hlt)] at k1
 obtain ⟨a, o, e4, ha, hcells⟩ := (RI.out.keep xr).read (by rw [RL.out, HZ.out]; omega)
 have k2 := hcells j (by rw [RL.out, HZ.out]; exact hlt)
 rw [RL.out] at k2
 rw [e4]
 have XV := Lib.hid (xor_val (p.l.getD j 0) (Z.getD j 0))
 have SU := Lib.hid (hidJ_succ p.l Z j (by rw [← HM.out]; exact hlt))
 obtain ⟨x, hxx⟩ : ∃ x, x = p.l.getD j 0 := ⟨_, rfl⟩
 obtain ⟨y, hyy⟩ : ∃ y, y = Z.getD j 0 := ⟨_, rfl⟩
 rw [← hxx] at k1
 rw [← hyy] at k2
 rw [← hxx, ← hyy] at XV SU
 have E4 := Lib.hid e4
 clear hcells e1 e2 e4 ha hxx hyy own
 have OW := Lib.hid own1
 clear own1
 go_wp2_with fail
 go_region
 go_wp2_with fail
 refine ⟨⟨j + 1, by omega, by go_num, ?_, ?_⟩, by simp [intOf]; omega⟩
 ·rw [XV.out]
  have k := own_put OW.out (by rw [hidJ_len, ← HM.out]) j (x ^^^ y)
  rw [SU.out] at k
  exact Lib.hid k
 exact (xr.setCell (p := ⟨g, j, none⟩) (by show w2.heap.size ≤ g; omega) _).drew
theorem rmark_any (kl : List UInt8) (hk : kl.length = 16) (n : Int) (n0 : 0 ≤ n) (n1 : n < 18446744073709551616) (p q : Pt) (w : World) (hp : p.In w w.heap.size) (hq : q.In w w.heap.size) (hpl : p.l.length ≤ 100000) (hql : q.l.length ≤ 100000) :
  Calls Try.prog 106 #[digV kl, .int .u64 n, p.V, q.V] w (PtPost (markL kl n p.l q.l) w) := by
 obtain ⟨cs, hcs⟩ : ∃ cs, cs = (Lib.byteCells kl).toArray := ⟨_, rfl⟩
 have hv : digV kl = .agg cs := by rw [hcs]; rfl
 have A1 : Hid (DB (w.alloc (.cells cs 36)) w.heap.size kl) := by rw [hcs]; exact Lib.hid (DB.new rfl hk)
 have bw : Below w.heap.size w (w.alloc (.cells cs 36)) := (Below.refl _ _).alloc (Nat.le_refl _) _
 have bz : w.heap.size + 1 ≤ (w.alloc (.cells cs 36)).heap.size := by simp
 obtain ⟨m, hm'⟩ : ∃ m, m = p.l.length := ⟨_, rfl⟩
 have NN := Lib.hid (rnumber_any n n0 n1)
 have NM := Lib.hid (rnumberP (m : Int) (by omega) (by omega))
 have WM := Lib.hid (show IntKind.u64.wrap (m : Int) = m from by unfold IntKind.wrap; simp [IntKind.bits, IntKind.signed]; omega)
 obtain ⟨S2, hS2⟩ : ∃ S, S = sumL (kl ++ kl) := ⟨_, rfl⟩
 have HS2 := Lib.hid (show S2.length = 16 by rw [hS2]; exact sumL_len _)
 have TW := Lib.hid (fun W => by have h := rtwo_any kl kl hk hk W; rw [← hS2] at h; exact h)
 have X0 : markL kl n p.l q.l = (sumL (S2 ++ (numL n ++ numL (m : Int) ++ p.l ++ q.l))).take 8 := by unfold markL; rw [hS2, hm', List.append_assoc (numL n), List.append_assoc (numL n), List.append_assoc (numL _)]
 obtain ⟨X, hX⟩ : ∃ X, X = sumL (S2 ++ (numL n ++ numL (m : Int) ++ p.l ++ q.l)) := ⟨_, rfl⟩
 have HX := Lib.hid (show X.length = 16 by rw [hX]; exact sumL_len _)
 have XX := Lib.hid X0
 rw [← hX] at XX
 have KY := Lib.hid (fun (W : World) (r : Pt) (hr : r.l = numL n ++ numL (m : Int) ++ p.l ++ q.l) (hi : r.In W W.heap.size) => show Calls Try.prog 73 #[digV S2, r.V] W fun e w' => e = .returned (digV X) ∧ Below W.heap.size W w' by
  have h := rkeyed_any S2 HS2.out r W hi (by rw [hr]; simp [numL]; omega)
  rw [hr, ← hX] at h
  exact h)
 have HP := Lib.hid hp
 have HQ := Lib.hid hq
 have hpm : p.V = .slice p.ad m p.cap := by unfold Pt.V; rw [hm']
 have HPM := Lib.hid hpm
 have HLM := Lib.hid (show p.l.length ≤ 100000 ∧ q.l.length ≤ 100000 from ⟨hpl, hql⟩)
 obtain ⟨qv, hqv⟩ : ∃ v, v = q.V := ⟨_, rfl⟩
 have HQV := Lib.hid hqv
 rw [hv, hpm, ← hqv]
 clear hv hcs hm' hpm X0 hX hp hq hqv hS2 hpl hql hk
 go_enter Try.func106, Try.ntmps106
 go_wp2_with fail
 obtain ⟨w1, hw1⟩ : ∃ w1, w1 = w.alloc (.cells cs 36) := ⟨_, rfl⟩
 rw [← hw1] at A1 bw bz ⊢
 clear hw1
 refine (NN.out _).mono ?_
 rintro e w2 ⟨rfl, bk, x1⟩
 have OW2 := own_num n bk
 go_wp2_with fail
 rw [WM.out]
 refine (NM.out _).mono ?_
 rintro e w3 ⟨p2, rfl, l2, i2, x2⟩
 have OW3 := Lib.hid (own_under OW2 x2)
 have I2 := Lib.hid i2
 have L2 := Lib.hid l2
 have x13 : Ex w1 w3 := Ex.trans x1 x2
 have b3z := x13.size
 clear OW2 i2 l2 x1 x2 bk NN NM
 go_wp2_with (first
  | ((with_reducible refine at_any ?_ ?_); (focus go_simp); (refine fun K hK => wp_app_own0 (.tmp 12) (.tmp 16) rfl w1.heap.size _ (numL n) p2 rfl rfl OW3.out I2.out b3z (by rw [L2.out]; simp [numL]) (fun v4 w4 o4 b4 => hK _ _ ?_)))
  | ((with_reducible refine at_any ?_ ?_); (focus go_simp); (refine fun K hK => wp_ld _ _ kl rfl rfl (A1.out.ext (Below.trans x13 b4)) (hK _ _ ?_))))
 rw [L2.out] at o4
 have x14 : Ex w1 w4 := Below.trans x13 b4
 have O4 := Lib.hid o4
 clear OW3 I2 L2 x13 b3z o4 b4 A1
 refine (TW.out _).mono ?_
 rintro e w5 ⟨rfl, x5⟩
 have O5 := Lib.hid (own_under O4.out x5)
 have x15 : Ex w1 w5 := Below.trans x14 (x5.mono x14.size)
 have bw5 : Below w.heap.size w w5 := bw.trans (x15.mono bw.size)
 have P5 := Lib.hid (HP.out.ext bw5)
 have b5z := x15.size
 have lN := Lib.hid (show (numL n ++ numL (m : Int)).length = 16 from rfl)
 clear O4 x5 x14 TW
 have lN6 := Lib.hid (show (numL n ++ numL (m : Int) ++ p.l).length ≤ 200000 by rw [List.length_append, lN.out]; have := HLM.out; omega)
 go_wp2_with (first
  | ((with_reducible refine at_any ?_ ?_); (focus go_simp); (refine fun K hK => wp_app_own0 (.tmp 21) (.tmp 22) rfl w1.heap.size v4 (numL n ++ numL (m : Int)) p rfl HPM.out.symm O5.out P5.out b5z (by rw [lN.out]; have := HLM.out; omega) (fun v6 w6 o6 b6 => hK _ _ ?_)))
  | ((with_reducible refine at_any ?_ ?_); (focus go_simp); (refine fun K hK => wp_app_own0 (.tmp 23) (.tmp 24) rfl w1.heap.size v6 (numL n ++ numL (m : Int) ++ p.l) q rfl HQV.out o6 (HQ.out.ext (bw.trans ((Below.trans x15 b6).mono bw.size))) (Below.trans x15 b6).size (by have := lN6.out; have := HLM.out; omega) (fun v7 w7 o7 b7 => hK _ _ ?_))))
 have x16 : Ex w1 w6 := Below.trans x15 b6
 obtain ⟨r, rfl, rl, ri⟩ := own_pt0 o7
 have x17 : Ex w1 w7 := Below.trans x16 b7
 have bw7 : Below w.heap.size w w7 := bw.trans (x17.mono bw.size)
 have K2 := Lib.hid (KY.out w7 r rl ri)
 obtain ⟨rv, hrv⟩ : ∃ v, v = r.V := ⟨_, rfl⟩
 rw [← hrv] at K2 ⊢
 clear x16 lN6 o7 b7 rl ri hrv KY x17 O5 P5 x15 bw5 b5z o6 b6
 refine K2.out.mono ?_
 rintro e w8 ⟨rfl, x8⟩
 have bw8 : Below w.heap.size w w8 := bw7.trans (x8.mono bw7.size)
 have x9 : Ex w8 (w8.alloc (.cells zero16 36)) := (Below.refl _ _).alloc (Nat.le_refl _) _
 have bw9 : Below w.heap.size w (w8.alloc (.cells zero16 36)) := bw8.trans (x9.mono bw8.size)
 have bz8 := bw8.size
 clear K2 x8 x9 bw8 bw7
 have HT8 := Lib.hid (show (X.take 8).length = 8 by rw [List.length_take, HX.out]; rfl)
 go_wp2_with (first
  | ((with_reducible refine at_any ?_ ?_); (focus go_simp); (refine fun K hK => wp_st _ _ w8.heap.size X rfl rfl rfl HX.out (Bk.new rfl _ _) rfl (fun w10 hd ho => hK _ _ ?_)))
  | ((with_reducible refine at_any ?_ ?_); (focus go_simp); (refine fun K hK => wp_app_own0 (.tmp 27) (.tmp 28) rfl w10.heap.size _ [] ⟨some ⟨w8.heap.size, 0, none⟩, 16, X.take 8⟩ rfl (by unfold Pt.V; simp only [HT8.out]; rfl) (own_empty w10 _ (Nat.le_refl _)) (db_take hd _) (by simp) (by simp only [HT8.out]; simp) (fun v11 w11 o11 b11 => hK _ _ ?_))))
 have bw10 := ho.below _ bz8 _ bw9
 rw [List.nil_append] at o11
 obtain ⟨r, rfl, rl, ri⟩ := own_pt0 o11
 have xf : Ex w10 w11 := Below.trans ((Below.refl _ _).alloc (Nat.le_refl _) _) b11
 have bw11 := bw10.trans (xf.mono bw10.size)
 go_ret
 exact ⟨r, rfl, by rw [rl]; exact XX.out.symm, ri, bw11⟩
end Go.Proofs.Ytopamplmpfndlaa.Sm
