/- walks: veil.hidden -/
import Derived.Test.YtkneeocicbadjaaVeA
import Derived.Laws.BitsAllLaws
import Derived.RegionTactic
namespace Go.Proofs.Ytkneeocicbadjaa
open Go.RowKit
theorem strm_len (kl : List UInt8) (n : Int) (m : Nat) : (streamL kl n m).length = m := by
  unfold streamL; rw [List.length_take, strB_len]; omega
def hidL (Z b : List UInt8) : List UInt8 := (List.range Z.length).map fun i => Z.getD i 0 ^^^ b.getD i 0
def hidJ (Z b : List UInt8) (j : Nat) : List UInt8 := (List.range Z.length).map fun i => if i < j then Z.getD i 0 ^^^ b.getD i 0 else Z.getD i 0
theorem hidL_len (Z b : List UInt8) : (hidL Z b).length = Z.length := by simp [hidL]
theorem hidJ_len (Z b : List UInt8) (j : Nat) : (hidJ Z b j).length = Z.length := by simp [hidJ]
theorem hidJ_zero (Z b : List UInt8) : hidJ Z b 0 = Z := by
  apply List.ext_getElem (by simp [hidJ])
  intro i h1 h2
  simp [hidJ, List.getD, h2]
theorem hidJ_end (Z b : List UInt8) : hidJ Z b Z.length = hidL Z b := by
  apply List.ext_getElem (by simp [hidJ, hidL])
  intro i h1 h2
  have h3 : i < Z.length := by simpa [hidJ] using h1
  simp [hidJ, hidL, h3]
theorem hidJ_at (Z b : List UInt8) (j : Nat) (h : j < Z.length) : (hidJ Z b j).getD j 0 = Z.getD j 0 := by
  simp [hidJ, List.getD, h]
theorem hidJ_succ (Z b : List UInt8) (j : Nat) (h : j < Z.length) : (hidJ Z b j).set j (Z.getD j 0 ^^^ b.getD j 0) = hidJ Z b (j + 1) := by
  apply List.ext_getElem (by simp [hidJ])
  intro i h1 h2
  rw [List.getElem_set]
  by_cases e : j = i
  · subst e; simp [hidJ]
  · rw [if_neg e]
    simp only [hidJ, List.getElem_map, List.getElem_range]
    by_cases h3 : i < j
    · rw [if_pos h3, if_pos (by omega)]
    · rw [if_neg h3, if_neg (by omega)]
theorem xor_val (x y : UInt8) : bits .xor .u8 (x.toNat : Int) (y.toNat : Int) = ((x ^^^ y).toNat : Int) := by
  rw [u8_xor_nat _ _ x.toNat_lt y.toNat_lt, UInt8.toNat_xor]
set_option maxHeartbeats 4000000 in
set_option maxRecDepth 100000 in
theorem hidden_any (kl : List UInt8) (hk : kl.length = 16) (n : Int) (n0 : 0 ≤ n) (n1 : n < 18446744073709551616) (p : Pt) (w : World) (hp : p.In w w.heap.size) (hm : p.l.length ≤ 8192) :
    Calls Try.prog 68 #[digV kl, .int .u64 n, p.V] w (OwnPost (hidL (streamL kl n p.l.length) p.l) w) := by
  obtain ⟨cs, hcs⟩ : ∃ cs, cs = (Lib.byteCells kl).toArray := ⟨_, rfl⟩
  have hv : digV kl = .agg cs := by rw [hcs]; rfl
  have A1 : Hid (DB (w.alloc (.cells cs 24)) w.heap.size kl) := by rw [hcs]; exact Lib.hid (DB.new rfl hk)
  have bw : Below w.heap.size w (w.alloc (.cells cs 24)) := (Below.refl _ _).alloc (Nat.le_refl _) _
  have bz : w.heap.size + 1 ≤ (w.alloc (.cells cs 24)).heap.size := by simp
  obtain ⟨m, hm'⟩ : ∃ m, m = p.l.length := ⟨_, rfl⟩
  have HM := Lib.hid hm'
  rw [← hm'] at hm ⊢
  obtain ⟨Z, hZ⟩ : ∃ Z, Z = streamL kl n m := ⟨_, rfl⟩
  have ST := Lib.hid (fun W => by have h := stream_own kl hk n n0 n1 m hm W; rw [← hZ] at h; exact h)
  have HZ := Lib.hid (show Z.length = m by rw [hZ, strm_len])
  rw [← hZ]
  obtain ⟨pad, hpad⟩ : ∃ x, x = p.ad := ⟨_, rfl⟩
  have hpv : p.V = .slice pad m p.cap := by unfold Pt.V; rw [hm', hpad]
  have HPA := Lib.hid hpad
  have HP := Lib.hid hp
  rw [hv, hpv]
  clear hv hcs hm' hpad hpv hp hk hZ
  go_enter Try.func68, Try.ntmps68
  go_wp2_with ((with_reducible refine at_any ?_ ?_); (focus go_simp); (refine fun K hK => wp_ld _ _ kl rfl rfl A1.out (hK _ _ ?_)))
  obtain ⟨w1, hw1⟩ : ∃ w1, w1 = w.alloc (.cells cs 24) := ⟨_, rfl⟩
  rw [← hw1] at A1 bw bz ⊢
  clear hw1
  refine (ST.out _).mono ?_
  rintro e w2 ⟨v, rfl, own, hx⟩
  have bw2 : Below w.heap.size w w2 := bw.trans (hx.mono bw.size)
  have own := own_less own (show w.heap.size + 1 ≤ _ by omega)
  obtain ⟨q, rfl, hql, _⟩ := own_pt0 own
  have hqv : q.V = .slice q.ad m q.cap := by unfold Pt.V; rw [hql, HZ.out]
  rw [hqv] at own ⊢
  obtain ⟨ad, had⟩ : ∃ x, x = q.ad := ⟨_, rfl⟩
  obtain ⟨c, hc⟩ : ∃ x, x = q.cap := ⟨_, rfl⟩
  rw [← had, ← hc] at own ⊢
  have OW := Lib.hid own
  clear had hc hqv hql own A1 bw bz hx ST
  go_wp2_with fail
  go_loopw [16] (fun i wr => ∃ j : Nat, j ≤ m ∧ i = .int .i64 j ∧ Hid (ownU wr (w.heap.size + 1) (.slice ad m c) (hidJ Z p.l j)) ∧ Below w.heap.size w wr) (fun i _ => m - (intOf i).toNat)
  case atStart => exact ⟨0, by omega, rfl, by rw [hidJ_zero]; exact OW, bw2⟩
  case round =>
    clear OW bw2
    obtain ⟨j, hj, rfl, own, bwr⟩ := hrel
    by_cases hlt : j < m
    · obtain ⟨g, c', e, hBg, hg, hc'⟩ := own_slice own.out (by rw [hidJ_len, HZ.out]; omega)
      injection e with e1 e2 e3
      subst e3
      have E1 := Lib.hid e1
      have own1 := own.out
      rw [e1] at own1 ⊢
      obtain ⟨k1, f1⟩ := own_at own1 (by rw [hidJ_len, HZ.out]) j hlt
      rw [hidJ_at _ _ _ (by rw [HZ.out]; exact hlt)] at k1
      obtain ⟨a, o, e4, ha, hcells⟩ := (HP.out.keep bwr).read (by rw [← HM.out]; omega)
      have k2 := hcells j (by rw [← HM.out]; exact hlt)
      have E4 := Lib.hid (HPA.out.trans e4)
      rw [HPA.out, e4]
      have hcap : m ≤ p.cap := by rw [HM.out]; exact HP.out.cap
      have XV := Lib.hid (xor_val (Z.getD j 0) (p.l.getD j 0))
      have SU := Lib.hid (hidJ_succ Z p.l j (by rw [HZ.out]; exact hlt))
      obtain ⟨x, hxx⟩ : ∃ x, x = Z.getD j 0 := ⟨_, rfl⟩
      obtain ⟨y, hyy⟩ : ∃ y, y = p.l.getD j 0 := ⟨_, rfl⟩
      rw [← hxx] at k1
      rw [← hyy] at k2
      rw [← hxx, ← hyy] at XV SU
      clear hcells e1 e2 e4 ha hxx hyy own
      have OW := Lib.hid own1
      clear own1
      go_wp2_with fail
      go_region
      go_wp2_with fail
      refine ⟨⟨j + 1, by omega, by go_num, ?_, ?_⟩, by simp [intOf]; omega⟩
      · rw [XV.out]
        have k := own_put OW.out (by rw [hidJ_len, HZ.out]) j (x ^^^ y)
        rw [SU.out] at k
        exact Lib.hid k
      · exact (bwr.setCell (p := ⟨g, j, none⟩) (by show w.heap.size ≤ g; omega) _).drew
    · obtain rfl : j = m := by omega
      go_wp2_with fail
      go_ret
      have k := own.out
      have e := hidJ_end Z p.l
      rw [HZ.out] at e
      rw [e] at k
      exact ⟨_, rfl, own_less k (Nat.le_succ _), bwr⟩
def markL (kl : List UInt8) (n : Int) (A t : List UInt8) : List UInt8 := (sumL (sumL (kl ++ kl) ++ (numL n ++ (numL (A.length : Int) ++ (A ++ t))))).take 8
theorem markL_len (kl : List UInt8) (n : Int) (A t : List UInt8) : (markL kl n A t).length = 8 := by
  unfold markL; rw [List.length_take, sumL_len]; rfl
set_option maxHeartbeats 4000000 in
set_option maxRecDepth 100000 in
theorem mark_any (kl : List UInt8) (hk : kl.length = 16) (n : Int) (n0 : 0 ≤ n) (n1 : n < 18446744073709551616) (p q : Pt) (w : World) (hp : p.In w w.heap.size) (hq : q.In w w.heap.size) (hpl : p.l.length ≤ 100000) (hql : q.l.length ≤ 100000) :
    Calls Try.prog 69 #[digV kl, .int .u64 n, p.V, q.V] w (PtPost (markL kl n p.l q.l) w) := by
  obtain ⟨cs, hcs⟩ : ∃ cs, cs = (Lib.byteCells kl).toArray := ⟨_, rfl⟩
  have hv : digV kl = .agg cs := by rw [hcs]; rfl
  have A1 : Hid (DB (w.alloc (.cells cs 24)) w.heap.size kl) := by rw [hcs]; exact Lib.hid (DB.new rfl hk)
  have bw : Below w.heap.size w (w.alloc (.cells cs 24)) := (Below.refl _ _).alloc (Nat.le_refl _) _
  have bz : w.heap.size + 1 ≤ (w.alloc (.cells cs 24)).heap.size := by simp
  obtain ⟨m, hm'⟩ : ∃ m, m = p.l.length := ⟨_, rfl⟩
  have NN := Lib.hid (numberP n n0 n1)
  have NM := Lib.hid (numberP (m : Int) (by omega) (by omega))
  have WM := Lib.hid (show IntKind.u64.wrap (m : Int) = m from by unfold IntKind.wrap; simp [IntKind.bits, IntKind.signed]; omega)
  obtain ⟨S2, hS2⟩ : ∃ S, S = sumL (kl ++ kl) := ⟨_, rfl⟩
  have HS2 := Lib.hid (show S2.length = 16 by rw [hS2]; exact sumL_len _)
  have TW := Lib.hid (fun W => by have h := two_any kl kl hk hk W; rw [← hS2] at h; exact h)
  obtain ⟨pv, hpv⟩ : ∃ v, v = p.V := ⟨_, rfl⟩
  have hpm : p.V = .slice p.ad m p.cap := by unfold Pt.V; rw [hm']
  have X0 : markL kl n p.l q.l = (sumL (S2 ++ (numL n ++ (numL (m : Int) ++ (p.l ++ q.l))))).take 8 := by unfold markL; rw [hS2, hm']
  obtain ⟨X, hX⟩ : ∃ X, X = sumL (S2 ++ (numL n ++ (numL (m : Int) ++ (p.l ++ q.l)))) := ⟨_, rfl⟩
  have HX := Lib.hid (show X.length = 16 by rw [hX]; exact sumL_len _)
  have XX := Lib.hid X0
  rw [← hX] at XX
  have KY := Lib.hid (fun (W : World) (r : Pt) (hr : r.l = numL n ++ (numL (m : Int) ++ (p.l ++ q.l))) (hi : r.In W W.heap.size) => show Calls Try.prog 22 #[digV S2, r.V] W fun e w' => e = .returned (digV X) ∧ Below W.heap.size W w' by
    have h := keyed_any S2 HS2.out r W hi (by rw [hr]; simp [numL]; omega)
    rw [hr, ← hX] at h
    exact h)
  have HP := Lib.hid hp
  have HQ := Lib.hid hq
  have HPM := Lib.hid hpm
  have HLM := Lib.hid (show p.l.length ≤ 100000 ∧ q.l.length ≤ 100000 from ⟨hpl, hql⟩)
  obtain ⟨mq, hmq⟩ : ∃ m, m = q.l.length := ⟨_, rfl⟩
  have hqv : q.V = .slice q.ad mq q.cap := by unfold Pt.V; rw [hmq]
  have HQV := Lib.hid hqv
  rw [hv, hpm, hqv]
  clear hv hcs hm' hpv pv hpm X0 hX hp hq hqv hmq hS2 hpl hql hk
  go_enter Try.func69, Try.ntmps69
  go_wp2_with fail
  obtain ⟨w1, hw1⟩ : ∃ w1, w1 = w.alloc (.cells cs 24) := ⟨_, rfl⟩
  rw [← hw1] at A1 bw bz ⊢
  clear hw1
  refine (NN.out _).mono ?_
  rintro e w2 ⟨p1, rfl, l1, i1, x1⟩
  have hv1 : p1.V = .slice p1.ad 8 p1.cap := by unfold Pt.V; rw [l1]; rfl
  rw [hv1]
  have HV1 := Lib.hid hv1
  have I1 := Lib.hid i1
  have L1 := Lib.hid l1
  clear hv1 i1 l1
  go_wp2_with fail
  rw [WM.out]
  refine (NM.out _).mono ?_
  rintro e w3 ⟨p2, rfl, l2, i2, x2⟩
  have xx : Ex w1 w3 := x1.trans x2
  have I1 := Lib.hid (I1.out.ext x2)
  have IP := Lib.hid ((HP.out.ext bw).ext xx)
  have IQ := Lib.hid ((HQ.out.ext bw).ext xx)
  have A2 := Lib.hid (A1.out.ext xx)
  have bw3 : Below w.heap.size w w3 := bw.trans (xx.mono bw.size)
  have bz3 := bw3.size
  have hv2 : p2.V = .slice p2.ad 8 p2.cap := by unfold Pt.V; rw [l2]; rfl
  rw [hv2]
  have HV2 := Lib.hid hv2
  obtain ⟨g, hg⟩ : ∃ g, g = w3.heap.size := ⟨_, rfl⟩
  have x3 : Ex w3 (w3.alloc (.cells #[.slice p1.ad 8 p1.cap, .slice p2.ad 8 p2.cap, .slice p.ad m p.cap, .slice q.ad mq q.cap] 22)) := (Below.refl _ _).alloc (Nat.le_refl _) _
  have BK := Bk.new (w := w3) rfl 22 #[.slice p1.ad 8 p1.cap, .slice p2.ad 8 p2.cap, .slice p.ad m p.cap, .slice q.ad mq q.cap]
  have CC := concat_any [p1, p2, p, q] w3.heap.size 4 (w3.alloc (.cells #[.slice p1.ad 8 p1.cap, .slice p2.ad 8 p2.cap, .slice p.ad m p.cap, .slice q.ad mq q.cap] 22)) BK.lt (by
    intro i r hr
    match i, hr with
    | 0, hr =>
      obtain rfl : p1 = r := by simpa using hr
      exact ⟨by rw [BK.cell, HV1.out]; rfl, I1.out.ext x3⟩
    | 1, hr =>
      obtain rfl : p2 = r := by simpa using hr
      exact ⟨by rw [BK.cell, HV2.out]; rfl, i2.ext x3⟩
    | 2, hr =>
      obtain rfl : p = r := by simpa using hr
      exact ⟨by rw [BK.cell, HPM.out]; rfl, IP.out.ext x3⟩
    | 3, hr =>
      obtain rfl : q = r := by simpa using hr
      exact ⟨by rw [BK.cell, HQV.out]; rfl, IQ.out.ext x3⟩
    | i + 4, hr => simp at hr) (by have := HLM.out; simp [flatL, L1.out, l2, numL]; omega) (by simp)
  have eL : flatL [p1, p2, p, q] 4 = numL n ++ (numL (m : Int) ++ (p.l ++ q.l)) := by simp [flatL, L1.out, l2]
  have CC : Hid (Calls Try.prog 62 #[.slice (some ⟨w3.heap.size, 0, none⟩) 4 4] (w3.alloc (.cells #[.slice p1.ad 8 p1.cap, .slice p2.ad 8 p2.cap, .slice p.ad m p.cap, .slice q.ad mq q.cap] 22)) (ConcatPost (numL n ++ (numL (m : Int) ++ (p.l ++ q.l))) (w3.alloc (.cells #[.slice p1.ad 8 p1.cap, .slice p2.ad 8 p2.cap, .slice p.ad m p.cap, .slice q.ad mq q.cap] 22)))) := by rw [← eL]; exact Lib.hid CC
  have A3 := Lib.hid (A2.out.ext x3)
  have bw4 : Below w.heap.size w (w3.alloc (.cells #[.slice p1.ad 8 p1.cap, .slice p2.ad 8 p2.cap, .slice p.ad m p.cap, .slice q.ad mq q.cap] 22)) := bw3.trans (x3.mono bz3)
  have bz4 := bw4.size
  clear I1 IP IQ A1 A2 x1 x2 xx x3 i2 l2 L1 BK eL NN NM hv2 bw3 bw bz HV1 HV2
  go_wp2_with fail
  refine CC.out.mono ?_
  rintro e w5 ⟨v, rfl, own, x5⟩
  obtain ⟨r, rfl, rl, ri⟩ := own_pt0 own
  obtain ⟨rv, hrv⟩ : ∃ x, x = r.V := ⟨_, rfl⟩
  rw [← hrv]
  have RV := Lib.hid hrv
  have A4 := Lib.hid (A3.out.ext x5)
  have bw5 : Below w.heap.size w w5 := bw4.trans (x5.mono bz4)
  have RL := Lib.hid rl
  have RI := Lib.hid ri
  clear CC A3 x5 own rl ri hrv bw4 bz4
  go_wp2_with ((with_reducible refine at_any ?_ ?_); (focus go_simp); (refine fun K hK => wp_ld _ _ kl rfl rfl A4.out (hK _ _ ?_)))
  refine (TW.out _).mono ?_
  rintro e w6 ⟨rfl, x6⟩
  have RI := Lib.hid (RI.out.ext x6)
  have bw6 : Below w.heap.size w w6 := bw5.trans (x6.mono bw5.size)
  have K2 := KY.out w6 r RL.out RI.out
  rw [← RV.out] at K2
  have K2 := Lib.hid K2
  clear A4 bw5 x6 TW RI RL KY
  go_wp2_with fail
  refine K2.out.mono ?_
  rintro e w7 ⟨rfl, x7⟩
  have bw7 : Below w.heap.size w w7 := bw6.trans (x7.mono bw6.size)
  have x8 : Ex w7 (w7.alloc (.cells zero16 24)) := (Below.refl _ _).alloc (Nat.le_refl _) _
  have bw8 : Below w.heap.size w (w7.alloc (.cells zero16 24)) := bw7.trans (x8.mono bw7.size)
  have bz7 := bw7.size
  clear K2 x7 x8 bw6 bw7
  go_wp2_with ((with_reducible refine at_any ?_ ?_); (focus go_simp); (refine fun K hK => wp_st _ _ w7.heap.size X rfl rfl rfl HX.out (Bk.new rfl _ _) rfl (fun w8 hd ho => hK _ _ ?_)))
  go_ret
  have hp8 := hd.pt
  have bw9 := ho.below _ bz7 _ bw8
  have hl8 : (X.take 8).length = 8 := by rw [List.length_take, HX.out]; rfl
  refine ⟨⟨some ⟨w7.heap.size, 0, none⟩, 16, X.take 8⟩, ?_, XX.out.symm, ?_, bw9⟩
  · unfold Pt.V; simp only [hl8]; rfl
  · refine ⟨by simp only [hl8]; omega, (fun h => by cases h), fun _ => ⟨w7.heap.size, 0, rfl, hd.lt, fun i hi => ?_⟩⟩
    simp only [hl8] at hi
    obtain ⟨a, o, e, _, hcc⟩ := hp8.read (by show 0 < X.length; rw [HX.out]; omega)
    obtain ⟨rfl, rfl⟩ : w7.heap.size = a ∧ 0 = o := by injection e with e; injection e with e1 e2; exact ⟨e1, e2⟩
    rw [hcc i (by show i < X.length; rw [HX.out]; omega)]
    simp [List.getD, List.getElem?_take, hi]
end Go.Proofs.Ytkneeocicbadjaa
