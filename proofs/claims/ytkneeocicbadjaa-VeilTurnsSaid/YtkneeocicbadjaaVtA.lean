/- walks: VeilTurns -/
import Derived.Test.YtkneeocicbadjaaVeE
import Derived.Test.YtkneeocicbadjaaBlK
import Derived.RegionTactic
namespace Go.Proofs.Ytkneeocicbadjaa
open Go.RowKit
theorem wp_min {o : Oper} {a : Act} {w : World} {K : Act → World → Prop} {Q : Exit → Act → World → Prop} (x y : Operand) (hop : o.op = .call { callee := .builtin .min, args := #[x, y], argTypes := #[3, 3] }) (p q : Int) (hx : a.eval x = .int .i64 p) (hy : a.eval y = .int .i64 q)
    (h : K (a.put o.dst (.int .i64 (min p q))) w) : o.wp Try.prog a w K Q := by
  unfold Oper.wp
  have hm : (Builtin.min_ #[3, 3] o.type #[.int .i64 p, .int .i64 q]).run Try.prog w = .ok (.int .i64 (min p q)) w := by
    by_cases c : p ≤ q
    · simp [Builtin.min_, Builtin.min2, Int.min_eq_left c, show ¬ q < p by omega]
    · simp [Builtin.min_, Builtin.min2, Int.min_eq_right (by omega : q ≤ p), show q < p by omega]
  simp [execOp, hop, resolve, invoke, builtin, hx, hy, hm, Result.andThen]
  exact h
theorem strm_take (kl : List UInt8) (n : Int) (M : Nat) : ∀ d, (strB kl n (M + d)).take (16 * M) = strB kl n M
  | 0 => by rw [Nat.add_zero, List.take_of_length_le (by rw [strB_len]; omega)]
  | d + 1 => by rw [← Nat.add_assoc, strB_succ, List.take_append_of_le_length (by rw [strB_len]; omega), strm_take kl n M d]
theorem stream_begin (kl : List UInt8) (n : Int) (m1 m2 : Nat) (h : m1 ≤ m2) : (streamL kl n m2).take m1 = streamL kl n m1 := by
  unfold streamL
  rw [List.take_take, Nat.min_eq_left h]
  obtain ⟨d, hd⟩ : ∃ d, (m2 + 15) / 16 = (m1 + 15) / 16 + d := ⟨(m2 + 15) / 16 - (m1 + 15) / 16, by omega⟩
  rw [hd, ← strm_take kl n ((m1 + 15) / 16) d, List.take_take, Nat.min_eq_left (by omega)]
theorem hid_at (Z b : List UInt8) (i : Nat) (h : i < Z.length) : (hidL Z b).getD i 0 = Z.getD i 0 ^^^ b.getD i 0 := by simp [hidL, List.getD, h]
theorem getD_take (l : List UInt8) (m i : Nat) (h : i < m) : (l.take m).getD i 0 = l.getD i 0 := by simp [List.getD, List.getElem?_take, h]
theorem stream_at (kl : List UInt8) (n : Int) (m1 m2 i : Nat) (h : m1 ≤ m2) (hi : i < m1) : (streamL kl n m2).getD i 0 = (streamL kl n m1).getD i 0 := by
  rw [← stream_begin kl n m1 m2 h, getD_take _ _ _ hi]
theorem seal_at (kl : List UInt8) (n : Int) (A t : List UInt8) (i : Nat) (hi : i < t.length) : (sealL kl n A t).getD i 0 = (streamL kl n t.length).getD i 0 ^^^ t.getD i 0 := by
  have hl : (hidL (streamL kl n t.length) t).length = t.length := by rw [hidL_len, strm_len]
  have e : (sealL kl n A t).getD i 0 = (hidL (streamL kl n t.length) t).getD i 0 := by
    unfold sealL
    simp only [List.getD]
    rw [List.getElem?_append_left (by omega)]
  rw [e, hid_at _ _ _ (by rw [strm_len]; exact hi)]
theorem seal_take (kl : List UInt8) (n : Int) (A t : List UInt8) (m : Nat) (h : m ≤ t.length) : (sealL kl n A t).take m = hidL (streamL kl n m) (t.take m) := by
  apply List.ext_getElem (by rw [List.length_take, sealL_len, hidL_len, strm_len]; omega)
  intro i h1 h2
  have him : i < m := by rw [hidL_len, strm_len] at h2; exact h2
  have e1 := getD_take (sealL kl n A t) m i him
  have e2 := seal_at kl n A t i (by omega)
  have e3 := hid_at (streamL kl n m) (t.take m) i (by rw [strm_len]; exact him)
  have e4 := stream_at kl n m t.length i h him
  have e5 := getD_take t m i him
  have f1 : ((sealL kl n A t).take m).getD i 0 = ((sealL kl n A t).take m)[i] := by rw [List.getD_eq_getElem?_getD, List.getElem?_eq_getElem h1]; rfl
  have f2 : (hidL (streamL kl n m) (t.take m)).getD i 0 = (hidL (streamL kl n m) (t.take m))[i] := by rw [List.getD_eq_getElem?_getD, List.getElem?_eq_getElem h2]; rfl
  rw [← f1, ← f2, e1, e2, e3, e4, e5]
theorem xor_xor (s x y : UInt8) : (s ^^^ x) ^^^ (s ^^^ y) = x ^^^ y := by
  rw [UInt8.xor_comm s x, UInt8.xor_assoc, ← UInt8.xor_assoc s s y, UInt8.xor_self, UInt8.zero_xor]
theorem nil_in (w : World) (B : Nat) : (Pt.mk none 0 []).In w B := ⟨Nat.le_refl _, fun _ => rfl, fun h => by simp at h⟩
set_option maxHeartbeats 8000000 in
set_option maxRecDepth 100000 in
theorem vturns_any (kl : List UInt8) (hkll : kl.length = 16) (n : Int) (n0 : 0 ≤ n) (n1 : n < 18446744073709551616) (aa x0 y0 : Pt) (w : World) (ha : aa.In w w.heap.size) (hx0 : x0.In w w.heap.size) (hy0 : y0.In w w.heap.size) (hma : aa.l.length ≤ 9223372036854775807) (hmx : x0.l.length ≤ 9223372036854775807) (hmy : y0.l.length ≤ 9223372036854775807) :
    Calls Try.prog 15 #[digV kl, .int .u64 n, aa.V, x0.V, y0.V] w fun e w' => e = .returned (.bool true) ∧ Below w.heap.size w w' := by
  obtain ⟨cs, hcs⟩ : ∃ cs, cs = (Lib.byteCells kl).toArray := ⟨_, rfl⟩
  have hv : digV kl = .agg cs := by rw [hcs]; rfl
  have HA : Hid (DB (w.alloc (.cells cs 24)) w.heap.size kl) := by rw [hcs]; exact Lib.hid (DB.new rfl hkll)
  have bw : Below w.heap.size w (w.alloc (.cells cs 24)) := (Below.refl _ _).alloc (Nat.le_refl _) _
  obtain ⟨A, hA⟩ : ∃ A, A = aa.l := ⟨_, rfl⟩
  obtain ⟨X, hX⟩ : ∃ A, A = x0.l.take 100 := ⟨_, rfl⟩
  obtain ⟨Y, hY⟩ : ∃ A, A = y0.l.take 100 := ⟨_, rfl⟩
  have hXl : X.length ≤ 100 := by rw [hX, List.length_take]; omega
  have hYl : Y.length ≤ 100 := by rw [hY, List.length_take]; omega
  obtain ⟨la, hla⟩ : ∃ x, x = A.length := ⟨_, rfl⟩
  obtain ⟨lx, hlx⟩ : ∃ x, x = X.length := ⟨_, rfl⟩
  obtain ⟨ly, hly⟩ : ∃ x, x = Y.length := ⟨_, rfl⟩
  obtain ⟨l5, hl5, hl5a, hl5b⟩ : ∃ l5 : Nat, (l5 : Int) = min (la : Int) 50 ∧ l5 ≤ la ∧ l5 ≤ 50 := ⟨min la 50, by omega, by omega, by omega⟩
  obtain ⟨m, hm, hmx2, hmy2⟩ : ∃ m : Nat, (m : Int) = min (lx : Int) (ly : Int) ∧ m ≤ lx ∧ m ≤ ly := ⟨min lx ly, by omega, by omega, by omega⟩
  obtain ⟨A5, hA5⟩ : ∃ x, x = A.take l5 := ⟨_, rfl⟩
  obtain ⟨XM, hXM⟩ : ∃ x, x = X.take m := ⟨_, rfl⟩
  have hA5l : A5.length = l5 := by rw [hA5, List.length_take]; omega
  have hXMl : XM.length = m := by rw [hXM, List.length_take]; omega
  obtain ⟨SX, hSX⟩ : ∃ S, S = sealL kl n A5 X := ⟨_, rfl⟩
  obtain ⟨SY, hSY⟩ : ∃ S, S = sealL kl n [] Y := ⟨_, rfl⟩
  obtain ⟨SZ, hSZ⟩ : ∃ S, S = sealL kl n [] XM := ⟨_, rfl⟩
  obtain ⟨sx, hsx⟩ : ∃ x, x = lx + 8 := ⟨_, rfl⟩
  obtain ⟨sy, hsy⟩ : ∃ x, x = ly + 8 := ⟨_, rfl⟩
  obtain ⟨sz, hsz⟩ : ∃ x, x = m + 8 := ⟨_, rfl⟩
  have HSX := Lib.hid (show SX.length = sx by rw [hSX, sealL_len, hsx, hlx])
  have HSY := Lib.hid (show SY.length = sy by rw [hSY, sealL_len, hsy, hly])
  have HSZ := Lib.hid (show SZ.length = sz by rw [hSZ, sealL_len, hsz, hXMl])
  have E8X := Lib.hid (show ((lx : Int) + 8) = (sx : Int) by omega)
  have E8Y := Lib.hid (show ((ly : Int) + 8) = (sy : Int) by omega)
  have E8Z := Lib.hid (show ((m : Int) + 8) = (sz : Int) by omega)
  obtain ⟨C, hC⟩ : ∃ C, C = hidL (streamL kl n m) XM := ⟨_, rfl⟩
  have HCX := Lib.hid (show SX.take m = C by rw [hSX, seal_take _ _ _ _ _ (by omega), hC, hXM])
  have HCZ := Lib.hid (show SZ.take m = C by rw [hSZ, seal_take _ _ _ _ _ (by omega), hC, List.take_of_length_le (by omega)])
  have HCl := Lib.hid (show C.length = m by rw [hC, hidL_len, strm_len])
  have HXY := Lib.hid (show ∀ i, i < m → SX.getD i 0 ^^^ SY.getD i 0 = X.getD i 0 ^^^ Y.getD i 0 from fun i hi => by
    rw [hSX, hSY, seal_at _ _ _ _ _ (by omega), seal_at _ _ _ _ _ (by omega), stream_at kl n m X.length i (by omega) hi, stream_at kl n m Y.length i (by omega) hi, xor_xor])
  have HAl := Lib.hid hla.symm
  have HXl := Lib.hid hlx.symm
  have HYl := Lib.hid hly.symm
  have HL5 := Lib.hid hl5
  have H5le := Lib.hid hl5a
  have H5t := Lib.hid hA5.symm
  have H5l := Lib.hid hA5l
  have HMX := Lib.hid hmx2
  have HMt := Lib.hid hXM.symm
  have HMl := Lib.hid hXMl
  have HMM := Lib.hid hm
  have HSYm := Lib.hid (show ly ≤ sy by omega)
  have HMX2 := Lib.hid hmx2
  have HMZ := Lib.hid (show m ≤ sz by omega)
  have HMSX := Lib.hid (show m ≤ sx by omega)
  have HMY := Lib.hid hmy2
  have hbx : lx ≤ 100 := by omega
  have hbm : m ≤ 100 := by omega
  have hby : ly ≤ 100 := by omega
  have hla0 : la ≤ 9223372036854775807 := by rw [hla, hA]; exact hma
  have CX := Lib.hid (show ∀ (W : World) (p q : Pt), p.l = A5 → q.l = X → p.In W W.heap.size → q.In W W.heap.size → Calls Try.prog 43 #[digV kl, .int .u64 n, p.V, q.V] W (PtPost SX W) from fun W p q h1 h2 i1 i2 => by
    have h := seal_any kl hkll n n0 n1 p q W i1 i2 (by rw [h1]; omega) (by rw [h2]; omega)
    rw [h1, h2, ← hSX] at h
    exact h)
  have CY := Lib.hid (show ∀ (W : World) (q : Pt), q.l = Y → q.In W W.heap.size → Calls Try.prog 43 #[digV kl, .int .u64 n, .slice none 0 0, q.V] W (PtPost SY W) from fun W q h2 i2 => by
    have h := seal_any kl hkll n n0 n1 ⟨none, 0, []⟩ q W (nil_in _ _) i2 (by simp) (by rw [h2]; omega)
    rw [h2, ← hSY] at h
    exact h)
  have CZ := Lib.hid (show ∀ (W : World) (q : Pt), q.l = XM → q.In W W.heap.size → Calls Try.prog 43 #[digV kl, .int .u64 n, .slice none 0 0, q.V] W (PtPost SZ W) from fun W q h2 i2 => by
    have h := seal_any kl hkll n n0 n1 ⟨none, 0, []⟩ q W (nil_in _ _) i2 (by simp) (by rw [h2]; omega)
    rw [h2, ← hSZ] at h
    exact h)
  have C1 := Lib.hid (cut_any x0 100 (by omega) _ (hx0.ext bw) hmx)
  have C2 := Lib.hid (cut_any y0 100 (by omega) _ (hy0.ext bw) hmy)
  rw [← hX] at C1
  rw [← hY] at C2
  have hal : aa.l = A := hA.symm
  have hai := ha.ext bw
  obtain ⟨av, hav⟩ : ∃ v, v = aa.V := ⟨_, rfl⟩
  obtain ⟨xv, hxv⟩ : ∃ v, v = x0.V := ⟨_, rfl⟩
  obtain ⟨yv, hyv⟩ : ∃ v, v = y0.V := ⟨_, rfl⟩
  rw [← hxv] at C1
  rw [← hyv] at C2
  have HAV := Lib.hid hav
  have bz := bw.size
  rw [hv, ← hav, ← hxv, ← hyv]
  clear hv hcs hA hX hY hXl hYl hla hlx hly hl5 hl5a hl5b hm hmx2 hmy2 hA5 hXM hA5l hXMl hSX hSY hSZ hsx hsy hsz hC hav hxv hyv ha hx0 hy0 hma hmx hmy
  go_enter Try.func15, Try.ntmps15
  go_wp2_with fail
  obtain ⟨wr, hw1⟩ : ∃ w1, w1 = w.alloc (.cells cs 24) := ⟨_, rfl⟩
  rw [← hw1] at HA bw bz C1 C2 hai ⊢
  clear hw1
  have HAI := Lib.hid hai
  have HAL := Lib.hid hal
  clear hai hal
  refine C1.out.mono ?_
  rintro e w2 ⟨⟨xx, rfl, hxl, hxi⟩, rfl⟩
  have hxV : xx.V = .slice xx.ad lx xx.cap := by unfold Pt.V; rw [hxl, HXl.out]
  rw [hxV]
  have HXV := Lib.hid hxV
  have HXL := Lib.hid hxl
  have HXI := Lib.hid hxi
  clear hxV hxl hxi C1
  go_wp2_with fail
  refine C2.out.mono ?_
  rintro e w3 ⟨⟨yy, rfl, hyl, hyi⟩, rfl⟩
  have hyV : yy.V = .slice yy.ad ly yy.cap := by unfold Pt.V; rw [hyl, HYl.out]
  rw [hyV]
  have HYV := Lib.hid hyV
  have HYL := Lib.hid hyl
  have HYI := Lib.hid hyi
  clear hyV hyl hyi C2
  go_wp2_with ((with_reducible refine at_any ?_ ?_); (focus go_simp); (refine fun K hK => wp_min _ _ rfl (lx : Int) (ly : Int) rfl rfl (hK _ _ ?_)))
  rw [← HMM.out, HAV.out, ← HXV.out, ← HYV.out]
  have hal := HAL.out
  have hai := HAI.out
  have hxl := HXL.out
  have hxi := HXI.out
  have hyl := HYL.out
  have hyi := HYI.out
  generalize w3 = wr at *
  obtain ⟨T, hT⟩ : ∃ T : List As, T = [.is (digV kl), .is (.int .u64 n), .pt A, .pt A, .is (.int .i64 (la : Int)), .is (.int .i64 (l5 : Int)), .pt A5, .pt X, .pt SX, .is (digV kl), .is (.int .u64 n), .pt Y, .pt SY, .is (digV kl), .is (.int .u64 n), .pt X, .is (.int .i64 (m : Int)), .pt XM, .pt SZ, .pt SX, .pt SY] := ⟨_, rfl⟩
  refine wp_region_flow 21 (tabPhi T) (by kernel_rfl) rfl (by kernel_rfl) (by kernel_rfl) (by kernel_rfl) (tabPhi_stable T) (fitB_spec (by kernel_rfl)) ?_ ?_
  · intro i o hi ho
    have hi' : i = 0 ∨ i = 1 ∨ i = 2 ∨ i = 3 ∨ i = 4 ∨ i = 5 ∨ i = 6 ∨ i = 7 ∨ i = 8 ∨ i = 9 ∨ i = 10 ∨ i = 11 ∨ i = 12 ∨ i = 13 ∨ i = 14 ∨ i = 15 ∨ i = 16 ∨ i = 17 ∨ i = 18 ∨ i = 19 ∨ i = 20 := by omega
    rcases hi' with rfl | rfl | rfl | rfl | rfl | rfl | rfl | rfl | rfl | rfl | rfl | rfl | rfl | rfl | rfl | rfl | rfl | rfl | rfl | rfl | rfl
    all_goals (simp only [List.getElem?_toArray, List.getElem?_cons_zero, List.getElem?_cons_succ, Option.some.injEq] at ho; subst ho; intro a w2 hx hsz hdep hout)
    · rw [if_pos (by rfl)]
      intro K hK
      have f := hout 5 (outB_spec (by kernel_rfl))
      exact wp_ld _ w.heap.size kl rfl f (HA.out.ext (Ex.trans (show Ex wr wr.drew from (Below.refl _ _).drew) hx)) (hK _ _ (Ex.refl _) (by rw [hT]; rfl))
    · rw [if_pos (by rfl)]
      intro K hK
      have f := hout 1 (outB_spec (by kernel_rfl))
      exact wp_mv _ rfl (hK _ _ (Ex.refl _) (by rw [hT]; exact f))
    · rw [if_pos (by rfl)]
      intro K hK
      have f := hout 2 (outB_spec (by kernel_rfl))
      exact wp_mv _ rfl (hK _ _ (Ex.refl _) (by rw [hT]; exact ⟨aa, f, hal, hai.ext (Ex.trans (show Ex wr wr.drew from (Below.refl _ _).drew) hx)⟩))
    · rw [if_pos (by rfl)]
      intro K hK
      have f := hout 2 (outB_spec (by kernel_rfl))
      exact wp_mv _ rfl (hK _ _ (Ex.refl _) (by rw [hT]; exact ⟨aa, f, hal, hai.ext (Ex.trans (show Ex wr wr.drew from (Below.refl _ _).drew) hx)⟩))
    · rw [if_pos (by rfl)]
      intro K hK
      obtain ⟨v, hv, kv⟩ := hdep ⟨3, .data⟩ (by simp) rfl _ rfl
      have qv := kv _ rfl
      rw [hT] at hv
      obtain ⟨pv, rfl, lv, iv⟩ := hv
      have q : a.tmps[28]?.getD undef = .slice pv.ad la pv.cap := by rw [← Array.getD_eq_getD_getElem?, qv]; unfold Pt.V; rw [lv, HAl.out]
      clear hsz hdep hout qv kv lv
      go_simp
      exact hK _ _ (Ex.refl _) (by rw [hT]; rfl)
    · rw [if_pos (by rfl)]
      intro K hK
      obtain ⟨v, hv, kv⟩ := hdep ⟨4, .data⟩ (by simp) rfl _ rfl
      have qv := kv _ rfl
      rw [hT] at hv
      obtain rfl : v = .int .i64 (la : Int) := hv
      refine wp_min (.tmp 29) (.const (.int .i64 50)) rfl (la : Int) 50 (by simpa [Act.eval, Array.getD_eq_getD_getElem?] using qv) rfl ?_
      rw [← HL5.out]
      exact hK _ _ (Ex.refl _) (by rw [hT]; rfl)
    · rw [if_pos (by rfl)]
      intro K hK
      obtain ⟨v, hv, kv⟩ := hdep ⟨2, .data⟩ (by simp) rfl _ rfl
      have qv := kv _ rfl
      rw [hT] at hv
      obtain ⟨pv, rfl, lv, iv⟩ := hv
      obtain ⟨u, hu, ku⟩ := hdep ⟨5, .data⟩ (by simp) rfl _ rfl
      have qu := ku _ rfl
      rw [hT] at hu
      obtain rfl : u = .int .i64 (l5 : Int) := hu
      have q1 : a.tmps[27]?.getD undef = .slice pv.ad la pv.cap := by rw [← Array.getD_eq_getD_getElem?, qv]; unfold Pt.V; rw [lv, HAl.out]
      have q2 : a.tmps[30]?.getD undef = .int .i64 (l5 : Int) := by rw [← Array.getD_eq_getD_getElem?]; exact qu
      have hc1 : l5 ≤ pv.cap := by have := iv.cap; rw [lv, HAl.out] at this; have := H5le.out; omega
      have PT := Lib.hid (pt_takeV pv l5 w2 iv (by rw [lv, HAl.out]; exact H5le.out))
      rw [lv, H5t.out] at PT
      clear hsz hdep hout qv kv qu ku lv
      go_simp
      exact hK _ _ (Ex.refl _) (by rw [hT]; exact ⟨_, (by unfold Pt.V; rw [H5l.out]), rfl, PT.out⟩)
    · rw [if_pos (by rfl)]
      intro K hK
      have f := hout 3 (outB_spec (by kernel_rfl))
      exact wp_mv _ rfl (hK _ _ (Ex.refl _) (by rw [hT]; exact ⟨xx, f, hxl, hxi.ext (Ex.trans (show Ex wr wr.drew from (Below.refl _ _).drew) hx)⟩))
    · rw [if_pos (by rfl)]
      intro K hK
      obtain ⟨v, hv, kv⟩ := hdep ⟨0, .data⟩ (by simp) rfl _ rfl
      have qv := kv _ rfl
      rw [hT] at hv
      obtain rfl : v = digV kl := hv
      obtain ⟨u, hu, ku⟩ := hdep ⟨1, .data⟩ (by simp) rfl _ rfl
      have qu := ku _ rfl
      rw [hT] at hu
      obtain rfl : u = .int .u64 n := hu
      obtain ⟨x, hx, kx⟩ := hdep ⟨6, .data⟩ (by simp) rfl _ rfl
      have qx := kx _ rfl
      rw [hT] at hx
      obtain ⟨px, rfl, lx, ix⟩ := hx
      obtain ⟨y, hy, ky⟩ := hdep ⟨7, .data⟩ (by simp) rfl _ rfl
      have qy := ky _ rfl
      rw [hT] at hy
      obtain ⟨py, rfl, ly, iy⟩ := hy
      go_simp
      refine (CX.out w2 _ _ lx ly ix iy).mono ?_
      rintro e w3 ⟨p, rfl, hl, hin, hex⟩
      exact hK _ _ hex (by rw [hT]; exact ⟨p, rfl, hl, hin⟩)
    · rw [if_pos (by rfl)]
      intro K hK
      have f := hout 5 (outB_spec (by kernel_rfl))
      exact wp_ld _ w.heap.size kl rfl f (HA.out.ext (Ex.trans (show Ex wr wr.drew from (Below.refl _ _).drew) hx)) (hK _ _ (Ex.refl _) (by rw [hT]; rfl))
    · rw [if_pos (by rfl)]
      intro K hK
      have f := hout 1 (outB_spec (by kernel_rfl))
      exact wp_mv _ rfl (hK _ _ (Ex.refl _) (by rw [hT]; exact f))
    · rw [if_pos (by rfl)]
      intro K hK
      have f := hout 4 (outB_spec (by kernel_rfl))
      exact wp_mv _ rfl (hK _ _ (Ex.refl _) (by rw [hT]; exact ⟨yy, f, hyl, hyi.ext (Ex.trans (show Ex wr wr.drew from (Below.refl _ _).drew) hx)⟩))
    · rw [if_pos (by rfl)]
      intro K hK
      obtain ⟨v, hv, kv⟩ := hdep ⟨9, .data⟩ (by simp) rfl _ rfl
      have qv := kv _ rfl
      rw [hT] at hv
      obtain rfl : v = digV kl := hv
      obtain ⟨u, hu, ku⟩ := hdep ⟨10, .data⟩ (by simp) rfl _ rfl
      have qu := ku _ rfl
      rw [hT] at hu
      obtain rfl : u = .int .u64 n := hu
      obtain ⟨x, hx, kx⟩ := hdep ⟨11, .data⟩ (by simp) rfl _ rfl
      have qx := kx _ rfl
      rw [hT] at hx
      obtain ⟨px, rfl, lx, ix⟩ := hx
      go_simp
      refine (CY.out w2 _ lx ix).mono ?_
      rintro e w3 ⟨p, rfl, hl, hin, hex⟩
      exact hK _ _ hex (by rw [hT]; exact ⟨p, rfl, hl, hin⟩)
    · rw [if_pos (by rfl)]
      intro K hK
      have f := hout 5 (outB_spec (by kernel_rfl))
      exact wp_ld _ w.heap.size kl rfl f (HA.out.ext (Ex.trans (show Ex wr wr.drew from (Below.refl _ _).drew) hx)) (hK _ _ (Ex.refl _) (by rw [hT]; rfl))
    · rw [if_pos (by rfl)]
      intro K hK
      have f := hout 1 (outB_spec (by kernel_rfl))
      exact wp_mv _ rfl (hK _ _ (Ex.refl _) (by rw [hT]; exact f))
    · rw [if_pos (by rfl)]
      intro K hK
      have f := hout 3 (outB_spec (by kernel_rfl))
      exact wp_mv _ rfl (hK _ _ (Ex.refl _) (by rw [hT]; exact ⟨xx, f, hxl, hxi.ext (Ex.trans (show Ex wr wr.drew from (Below.refl _ _).drew) hx)⟩))
    · rw [if_pos (by rfl)]
      intro K hK
      have f := hout 11 (outB_spec (by kernel_rfl))
      exact wp_mv _ rfl (hK _ _ (Ex.refl _) (by rw [hT]; exact f))
    · rw [if_pos (by rfl)]
      intro K hK
      obtain ⟨v, hv, kv⟩ := hdep ⟨15, .data⟩ (by simp) rfl _ rfl
      have qv := kv _ rfl
      rw [hT] at hv
      obtain ⟨pv, rfl, lv, iv⟩ := hv
      obtain ⟨u, hu, ku⟩ := hdep ⟨16, .data⟩ (by simp) rfl _ rfl
      have qu := ku _ rfl
      rw [hT] at hu
      obtain rfl : u = .int .i64 (m : Int) := hu
      have q1 : a.tmps[40]?.getD undef = .slice pv.ad lx pv.cap := by rw [← Array.getD_eq_getD_getElem?, qv]; unfold Pt.V; rw [lv, HXl.out]
      have q2 : a.tmps[41]?.getD undef = .int .i64 (m : Int) := by rw [← Array.getD_eq_getD_getElem?]; exact qu
      have hc1 : m ≤ pv.cap := by have := iv.cap; rw [lv, HXl.out] at this; have := HMX.out; omega
      have PT := Lib.hid (pt_takeV pv m w2 iv (by rw [lv, HXl.out]; exact HMX.out))
      rw [lv, HMt.out] at PT
      clear hsz hdep hout qv kv qu ku lv
      go_simp
      exact hK _ _ (Ex.refl _) (by rw [hT]; exact ⟨_, (by unfold Pt.V; rw [HMl.out]), rfl, PT.out⟩)
    · rw [if_pos (by rfl)]
      intro K hK
      obtain ⟨v, hv, kv⟩ := hdep ⟨13, .data⟩ (by simp) rfl _ rfl
      have qv := kv _ rfl
      rw [hT] at hv
      obtain rfl : v = digV kl := hv
      obtain ⟨u, hu, ku⟩ := hdep ⟨14, .data⟩ (by simp) rfl _ rfl
      have qu := ku _ rfl
      rw [hT] at hu
      obtain rfl : u = .int .u64 n := hu
      obtain ⟨x, hx, kx⟩ := hdep ⟨17, .data⟩ (by simp) rfl _ rfl
      have qx := kx _ rfl
      rw [hT] at hx
      obtain ⟨px, rfl, lx, ix⟩ := hx
      go_simp
      refine (CZ.out w2 _ lx ix).mono ?_
      rintro e w3 ⟨p, rfl, hl, hin, hex⟩
      exact hK _ _ hex (by rw [hT]; exact ⟨p, rfl, hl, hin⟩)
    · rw [if_pos (by rfl)]
      intro K hK
      obtain ⟨v, hv, kv⟩ := hdep ⟨8, .data⟩ (by simp) rfl _ rfl
      have qv := kv _ rfl
      rw [hT] at hv
      obtain ⟨pv, rfl, lv, iv⟩ := hv
      exact wp_asg2 _ rfl (hK _ _ (Ex.refl _) (by rw [hT]; exact ⟨pv, qv, lv, iv⟩))
    · rw [if_pos (by rfl)]
      intro K hK
      obtain ⟨v, hv, kv⟩ := hdep ⟨12, .data⟩ (by simp) rfl _ rfl
      have qv := kv _ rfl
      rw [hT] at hv
      obtain ⟨pv, rfl, lv, iv⟩ := hv
      exact wp_asg2 _ rfl (hK _ _ (Ex.refl _) (by rw [hT]; exact ⟨pv, qv, lv, iv⟩))
  · intro a w2 hx hdef hsz hdone hout
    obtain ⟨sc, hsc, ksc⟩ := hdone 18 _ (by omega) rfl
    have qsc := ksc _ rfl
    rw [hT] at hsc
    obtain ⟨psc, rfl, lsc, isc⟩ := hsc
    obtain ⟨sa, hsa, ksa⟩ := hdone 19 _ (by omega) rfl
    have qsa := ksa _ rfl
    rw [hT] at hsa
    obtain ⟨psa, rfl, lsa, isa⟩ := hsa
    obtain ⟨sb, hsb, ksb⟩ := hdone 20 _ (by omega) rfl
    have qsb := ksb _ rfl
    rw [hT] at hsb
    obtain ⟨psb, rfl, lsb, isb⟩ := hsb
    clear hdone ksc ksa ksb hT
    have hA := arr_range a.tmps 101 hsz
    change a.tmps = #[a.tmps[0]?.getD undef, a.tmps[1]?.getD undef, a.tmps[2]?.getD undef, a.tmps[3]?.getD undef, a.tmps[4]?.getD undef, a.tmps[5]?.getD undef, a.tmps[6]?.getD undef, a.tmps[7]?.getD undef, a.tmps[8]?.getD undef, a.tmps[9]?.getD undef, a.tmps[10]?.getD undef, a.tmps[11]?.getD undef, a.tmps[12]?.getD undef, a.tmps[13]?.getD undef, a.tmps[14]?.getD undef, a.tmps[15]?.getD undef, a.tmps[16]?.getD undef, a.tmps[17]?.getD undef, a.tmps[18]?.getD undef, a.tmps[19]?.getD undef, a.tmps[20]?.getD undef, a.tmps[21]?.getD undef, a.tmps[22]?.getD undef, a.tmps[23]?.getD undef, a.tmps[24]?.getD undef, a.tmps[25]?.getD undef, a.tmps[26]?.getD undef, a.tmps[27]?.getD undef, a.tmps[28]?.getD undef, a.tmps[29]?.getD undef, a.tmps[30]?.getD undef, a.tmps[31]?.getD undef, a.tmps[32]?.getD undef, a.tmps[33]?.getD undef, a.tmps[34]?.getD undef, a.tmps[35]?.getD undef, a.tmps[36]?.getD undef, a.tmps[37]?.getD undef, a.tmps[38]?.getD undef, a.tmps[39]?.getD undef, a.tmps[40]?.getD undef, a.tmps[41]?.getD undef, a.tmps[42]?.getD undef, a.tmps[43]?.getD undef, a.tmps[44]?.getD undef, a.tmps[45]?.getD undef, a.tmps[46]?.getD undef, a.tmps[47]?.getD undef, a.tmps[48]?.getD undef, a.tmps[49]?.getD undef, a.tmps[50]?.getD undef, a.tmps[51]?.getD undef, a.tmps[52]?.getD undef, a.tmps[53]?.getD undef, a.tmps[54]?.getD undef, a.tmps[55]?.getD undef, a.tmps[56]?.getD undef, a.tmps[57]?.getD undef, a.tmps[58]?.getD undef, a.tmps[59]?.getD undef, a.tmps[60]?.getD undef, a.tmps[61]?.getD undef, a.tmps[62]?.getD undef, a.tmps[63]?.getD undef, a.tmps[64]?.getD undef, a.tmps[65]?.getD undef, a.tmps[66]?.getD undef, a.tmps[67]?.getD undef, a.tmps[68]?.getD undef, a.tmps[69]?.getD undef, a.tmps[70]?.getD undef, a.tmps[71]?.getD undef, a.tmps[72]?.getD undef, a.tmps[73]?.getD undef, a.tmps[74]?.getD undef, a.tmps[75]?.getD undef, a.tmps[76]?.getD undef, a.tmps[77]?.getD undef, a.tmps[78]?.getD undef, a.tmps[79]?.getD undef, a.tmps[80]?.getD undef, a.tmps[81]?.getD undef, a.tmps[82]?.getD undef, a.tmps[83]?.getD undef, a.tmps[84]?.getD undef, a.tmps[85]?.getD undef, a.tmps[86]?.getD undef, a.tmps[87]?.getD undef, a.tmps[88]?.getD undef, a.tmps[89]?.getD undef, a.tmps[90]?.getD undef, a.tmps[91]?.getD undef, a.tmps[92]?.getD undef, a.tmps[93]?.getD undef, a.tmps[94]?.getD undef, a.tmps[95]?.getD undef, a.tmps[96]?.getD undef, a.tmps[97]?.getD undef, a.tmps[98]?.getD undef, a.tmps[99]?.getD undef, a.tmps[100]?.getD undef] at hA
    have e0 := hout 0 (fun i o _ h => outB_spec (by kernel_rfl) i o h)
    have e1 := hout 1 (fun i o _ h => outB_spec (by kernel_rfl) i o h)
    have e2 := hout 2 (fun i o _ h => outB_spec (by kernel_rfl) i o h)
    have e3 := hout 3 (fun i o _ h => outB_spec (by kernel_rfl) i o h)
    have e4 := hout 4 (fun i o _ h => outB_spec (by kernel_rfl) i o h)
    have e5 := hout 5 (fun i o _ h => outB_spec (by kernel_rfl) i o h)
    have e6 := hout 6 (fun i o _ h => outB_spec (by kernel_rfl) i o h)
    have e7 := hout 7 (fun i o _ h => outB_spec (by kernel_rfl) i o h)
    have e8 := hout 8 (fun i o _ h => outB_spec (by kernel_rfl) i o h)
    have e9 := hout 9 (fun i o _ h => outB_spec (by kernel_rfl) i o h)
    have e10 := hout 10 (fun i o _ h => outB_spec (by kernel_rfl) i o h)
    have e11 := hout 11 (fun i o _ h => outB_spec (by kernel_rfl) i o h)
    have e15 := hout 15 (fun i o _ h => outB_spec (by kernel_rfl) i o h)
    have e16 := hout 16 (fun i o _ h => outB_spec (by kernel_rfl) i o h)
    have e17 := hout 17 (fun i o _ h => outB_spec (by kernel_rfl) i o h)
    have e18 := hout 18 (fun i o _ h => outB_spec (by kernel_rfl) i o h)
    have e19 := hout 19 (fun i o _ h => outB_spec (by kernel_rfl) i o h)
    have e20 := hout 20 (fun i o _ h => outB_spec (by kernel_rfl) i o h)
    have e21 := hout 21 (fun i o _ h => outB_spec (by kernel_rfl) i o h)
    have e22 := hout 22 (fun i o _ h => outB_spec (by kernel_rfl) i o h)
    have e23 := hout 23 (fun i o _ h => outB_spec (by kernel_rfl) i o h)
    have e24 := hout 24 (fun i o _ h => outB_spec (by kernel_rfl) i o h)
    have e44 := hout 44 (fun i o _ h => outB_spec (by kernel_rfl) i o h)
    have e45 := hout 45 (fun i o _ h => outB_spec (by kernel_rfl) i o h)
    have e46 := hout 46 (fun i o _ h => outB_spec (by kernel_rfl) i o h)
    have e47 := hout 47 (fun i o _ h => outB_spec (by kernel_rfl) i o h)
    have e48 := hout 48 (fun i o _ h => outB_spec (by kernel_rfl) i o h)
    have e49 := hout 49 (fun i o _ h => outB_spec (by kernel_rfl) i o h)
    have e50 := hout 50 (fun i o _ h => outB_spec (by kernel_rfl) i o h)
    have e51 := hout 51 (fun i o _ h => outB_spec (by kernel_rfl) i o h)
    have e52 := hout 52 (fun i o _ h => outB_spec (by kernel_rfl) i o h)
    have e53 := hout 53 (fun i o _ h => outB_spec (by kernel_rfl) i o h)
    have e54 := hout 54 (fun i o _ h => outB_spec (by kernel_rfl) i o h)
    have e55 := hout 55 (fun i o _ h => outB_spec (by kernel_rfl) i o h)
    have e56 := hout 56 (fun i o _ h => outB_spec (by kernel_rfl) i o h)
    have e57 := hout 57 (fun i o _ h => outB_spec (by kernel_rfl) i o h)
    have e58 := hout 58 (fun i o _ h => outB_spec (by kernel_rfl) i o h)
    have e59 := hout 59 (fun i o _ h => outB_spec (by kernel_rfl) i o h)
    have e60 := hout 60 (fun i o _ h => outB_spec (by kernel_rfl) i o h)
    have e61 := hout 61 (fun i o _ h => outB_spec (by kernel_rfl) i o h)
    have e62 := hout 62 (fun i o _ h => outB_spec (by kernel_rfl) i o h)
    have e63 := hout 63 (fun i o _ h => outB_spec (by kernel_rfl) i o h)
    have e64 := hout 64 (fun i o _ h => outB_spec (by kernel_rfl) i o h)
    have e65 := hout 65 (fun i o _ h => outB_spec (by kernel_rfl) i o h)
    have e66 := hout 66 (fun i o _ h => outB_spec (by kernel_rfl) i o h)
    have e67 := hout 67 (fun i o _ h => outB_spec (by kernel_rfl) i o h)
    have e68 := hout 68 (fun i o _ h => outB_spec (by kernel_rfl) i o h)
    have e69 := hout 69 (fun i o _ h => outB_spec (by kernel_rfl) i o h)
    have e70 := hout 70 (fun i o _ h => outB_spec (by kernel_rfl) i o h)
    have e71 := hout 71 (fun i o _ h => outB_spec (by kernel_rfl) i o h)
    have e72 := hout 72 (fun i o _ h => outB_spec (by kernel_rfl) i o h)
    have e73 := hout 73 (fun i o _ h => outB_spec (by kernel_rfl) i o h)
    have e74 := hout 74 (fun i o _ h => outB_spec (by kernel_rfl) i o h)
    have e75 := hout 75 (fun i o _ h => outB_spec (by kernel_rfl) i o h)
    have e76 := hout 76 (fun i o _ h => outB_spec (by kernel_rfl) i o h)
    have e77 := hout 77 (fun i o _ h => outB_spec (by kernel_rfl) i o h)
    have e78 := hout 78 (fun i o _ h => outB_spec (by kernel_rfl) i o h)
    have e79 := hout 79 (fun i o _ h => outB_spec (by kernel_rfl) i o h)
    have e80 := hout 80 (fun i o _ h => outB_spec (by kernel_rfl) i o h)
    have e81 := hout 81 (fun i o _ h => outB_spec (by kernel_rfl) i o h)
    have e82 := hout 82 (fun i o _ h => outB_spec (by kernel_rfl) i o h)
    have e83 := hout 83 (fun i o _ h => outB_spec (by kernel_rfl) i o h)
    have e84 := hout 84 (fun i o _ h => outB_spec (by kernel_rfl) i o h)
    have e85 := hout 85 (fun i o _ h => outB_spec (by kernel_rfl) i o h)
    have e86 := hout 86 (fun i o _ h => outB_spec (by kernel_rfl) i o h)
    have e87 := hout 87 (fun i o _ h => outB_spec (by kernel_rfl) i o h)
    have e88 := hout 88 (fun i o _ h => outB_spec (by kernel_rfl) i o h)
    have e89 := hout 89 (fun i o _ h => outB_spec (by kernel_rfl) i o h)
    have e90 := hout 90 (fun i o _ h => outB_spec (by kernel_rfl) i o h)
    have e91 := hout 91 (fun i o _ h => outB_spec (by kernel_rfl) i o h)
    have e92 := hout 92 (fun i o _ h => outB_spec (by kernel_rfl) i o h)
    have e93 := hout 93 (fun i o _ h => outB_spec (by kernel_rfl) i o h)
    have e94 := hout 94 (fun i o _ h => outB_spec (by kernel_rfl) i o h)
    have e95 := hout 95 (fun i o _ h => outB_spec (by kernel_rfl) i o h)
    have e96 := hout 96 (fun i o _ h => outB_spec (by kernel_rfl) i o h)
    have e97 := hout 97 (fun i o _ h => outB_spec (by kernel_rfl) i o h)
    have e98 := hout 98 (fun i o _ h => outB_spec (by kernel_rfl) i o h)
    have e99 := hout 99 (fun i o _ h => outB_spec (by kernel_rfl) i o h)
    have e100 := hout 100 (fun i o _ h => outB_spec (by kernel_rfl) i o h)
    simp only [Array.getD_eq_getD_getElem?, List.getElem?_toArray, List.getElem?_cons_zero, List.getElem?_cons_succ, Option.getD_some] at e0 e1 e2 e3 e4 e5 e6 e7 e8 e9 e10 e11 e15 e16 e17 e18 e19 e20 e21 e22 e23 e24 e44 e45 e46 e47 e48 e49 e50 e51 e52 e53 e54 e55 e56 e57 e58 e59 e60 e61 e62 e63 e64 e65 e66 e67 e68 e69 e70 e71 e72 e73 e74 e75 e76 e77 e78 e79 e80 e81 e82 e83 e84 e85 e86 e87 e88 e89 e90 e91 e92 e93 e94 e95 e96 e97 e98 e99 e100
    rw [e0, e1, e2, e3, e4, e5, e6, e7, e8, e9, e10, e11, e15, e16, e17, e18, e19, e20, e21, e22, e23, e24, e44, e45, e46, e47, e48, e49, e50, e51, e52, e53, e54, e55, e56, e57, e58, e59, e60, e61, e62, e63, e64, e65, e66, e67, e68, e69, e70, e71, e72, e73, e74, e75, e76, e77, e78, e79, e80, e81, e82, e83, e84, e85, e86, e87, e88, e89, e90, e91, e92, e93, e94, e95, e96, e97, e98, e99, e100] at hA
    clear e0 e1 e2 e3 e4 e5 e6 e7 e8 e9 e10 e11 e15 e16 e17 e18 e19 e20 e21 e22 e23 e24 e44 e45 e46 e47 e48 e49 e50 e51 e52 e53 e54 e55 e56 e57 e58 e59 e60 e61 e62 e63 e64 e65 e66 e67 e68 e69 e70 e71 e72 e73 e74 e75 e76 e77 e78 e79 e80 e81 e82 e83 e84 e85 e86 e87 e88 e89 e90 e91 e92 e93 e94 e95 e96 e97 e98 e99 e100 hout
    have hds2 : a.defers = [] := hdef
    have ea : a = ⟨a.tmps, a.defers⟩ := rfl
    have s43 : a.tmps[43]?.getD undef = psc.V := by simpa [Array.getD_eq_getD_getElem?] using qsc
    have s12 : a.tmps[12]?.getD undef = psa.V := by simpa [Array.getD_eq_getD_getElem?] using qsa
    have s13 : a.tmps[13]?.getD undef = psb.V := by simpa [Array.getD_eq_getD_getElem?] using qsb
    rw [hA, hds2, s43, s12, s13] at ea
    clear hA hds2 s43 qsc s12 qsa s13 qsb hdef
    generalize a.tmps[25]?.getD undef = y25 at ea
    generalize a.tmps[26]?.getD undef = y26 at ea
    generalize a.tmps[27]?.getD undef = y27 at ea
    generalize a.tmps[28]?.getD undef = y28 at ea
    generalize a.tmps[29]?.getD undef = y29 at ea
    generalize a.tmps[30]?.getD undef = y30 at ea
    generalize a.tmps[31]?.getD undef = y31 at ea
    generalize a.tmps[32]?.getD undef = y32 at ea
    generalize a.tmps[33]?.getD undef = y33 at ea
    generalize a.tmps[34]?.getD undef = y34 at ea
    generalize a.tmps[35]?.getD undef = y35 at ea
    generalize a.tmps[36]?.getD undef = y36 at ea
    generalize a.tmps[37]?.getD undef = y37 at ea
    generalize a.tmps[38]?.getD undef = y38 at ea
    generalize a.tmps[39]?.getD undef = y39 at ea
    generalize a.tmps[40]?.getD undef = y40 at ea
    generalize a.tmps[41]?.getD undef = y41 at ea
    generalize a.tmps[42]?.getD undef = y42 at ea
    generalize a.tmps[14]?.getD undef = y14 at ea
    clear hsz
    subst ea
    have bx : Below wr.heap.size wr w2 := Below.trans (Below.refl _ _).drew hx
    unfold wpOp
    simp only [List.getElem?_toArray, List.getElem?_cons_zero, List.getElem?_cons_succ]
    rw [if_pos (by rfl)]
    left
    have HSAI := Lib.hid isa
    have HSBI := Lib.hid isb
    have HSCI := Lib.hid isc
    have HXI4 := Lib.hid (hxi.ext (show Ex wr w2 from bx))
    have HYI4 := Lib.hid (hyi.ext (show Ex wr w2 from bx))
    have bw4 := bw.trans (bx.mono bz)
    have bz4 := bw4.size
    obtain ⟨va, hva⟩ : ∃ v, v = psa.V := ⟨_, rfl⟩
    obtain ⟨vb, hvb⟩ : ∃ v, v = psb.V := ⟨_, rfl⟩
    obtain ⟨vc, hvc⟩ : ∃ v, v = psc.V := ⟨_, rfl⟩
    have HVA := Lib.hid hva
    have HVB := Lib.hid hvb
    have HVC := Lib.hid hvc
    rw [← hva, ← hvb, ← hvc]
    clear HA hai hal HAL HAI HXI HYI hxi hyi bw bz bx hx isa isb isc hva hvb hvc CX CY CZ H5le H5t H5l HL5 HMt HMl HMX HAV
    go_simp
    rw [HVA.out, HVB.out, HVC.out]
    have isa := HSAI.out
    have isb := HSBI.out
    have isc := HSCI.out
    have hxi := HXI4.out
    have hyi := HYI4.out
    go_wp2_with fail
    generalize w2 = wr at *
    clear HSAI HSBI HSCI HXI4 HYI4
    obtain ⟨T, hT⟩ : ∃ T : List As, T = [.pt SX, .is (.int .i64 (sx : Int)), .pt X, .is (.int .i64 (lx : Int)), .is (.int .i64 (sx : Int)), .is (.bool false), .is (.bool false), .pt SY, .is (.int .i64 (sy : Int)), .pt Y, .is (.int .i64 (ly : Int)), .is (.int .i64 (sy : Int)), .is (.bool false), .is (.bool false), .is (.bool false), .pt SZ, .is (.int .i64 (sz : Int)), .is (.int .i64 (m : Int)), .is (.int .i64 (sz : Int)), .is (.bool false), .is (.bool false), .is (.bool false), .pt SZ, .is (.int .i64 (m : Int)), .pt C, .is (.string (strL C)), .pt SX, .is (.int .i64 (m : Int)), .pt C, .is (.string (strL C)), .is (.bool false)] := ⟨_, rfl⟩
    refine wp_region_flow 31 (tabPhi T) (by kernel_rfl) rfl (by kernel_rfl) (by kernel_rfl) (by kernel_rfl) (tabPhi_stable T) (fitB_spec (by kernel_rfl)) ?_ ?_
    · intro i o hi ho
      have hi' : i = 0 ∨ i = 1 ∨ i = 2 ∨ i = 3 ∨ i = 4 ∨ i = 5 ∨ i = 6 ∨ i = 7 ∨ i = 8 ∨ i = 9 ∨ i = 10 ∨ i = 11 ∨ i = 12 ∨ i = 13 ∨ i = 14 ∨ i = 15 ∨ i = 16 ∨ i = 17 ∨ i = 18 ∨ i = 19 ∨ i = 20 ∨ i = 21 ∨ i = 22 ∨ i = 23 ∨ i = 24 ∨ i = 25 ∨ i = 26 ∨ i = 27 ∨ i = 28 ∨ i = 29 ∨ i = 30 := by omega
      rcases hi' with rfl | rfl | rfl | rfl | rfl | rfl | rfl | rfl | rfl | rfl | rfl | rfl | rfl | rfl | rfl | rfl | rfl | rfl | rfl | rfl | rfl | rfl | rfl | rfl | rfl | rfl | rfl | rfl | rfl | rfl | rfl
      all_goals (simp only [List.getElem?_toArray, List.getElem?_cons_zero, List.getElem?_cons_succ, Option.some.injEq] at ho; subst ho; intro a w2 hx hsz hdep hout)
      · rw [if_pos (by rfl)]
        intro K hK
        have f := hout 12 (outB_spec (by kernel_rfl))
        exact wp_mv _ rfl (hK _ _ (Ex.refl _) (by rw [hT]; exact ⟨psa, f, lsa, isa.ext (Ex.trans (show Ex wr wr.drew from (Below.refl _ _).drew) hx)⟩))
      · rw [if_pos (by rfl)]
        intro K hK
        obtain ⟨v, hv, kv⟩ := hdep ⟨0, .data⟩ (by simp) rfl _ rfl
        have qv := kv _ rfl
        rw [hT] at hv
        obtain ⟨pv, rfl, lv, iv⟩ := hv
        have q : a.tmps[44]?.getD undef = .slice pv.ad sx pv.cap := by rw [← Array.getD_eq_getD_getElem?, qv]; unfold Pt.V; rw [lv, HSX.out]
        clear hsz hdep hout qv kv lv
        go_simp
        exact hK _ _ (Ex.refl _) (by rw [hT]; rfl)
      · rw [if_pos (by rfl)]
        intro K hK
        have f := hout 3 (outB_spec (by kernel_rfl))
        exact wp_mv _ rfl (hK _ _ (Ex.refl _) (by rw [hT]; exact ⟨xx, f, hxl, hxi.ext (Ex.trans (show Ex wr wr.drew from (Below.refl _ _).drew) hx)⟩))
      · rw [if_pos (by rfl)]
        intro K hK
        obtain ⟨v, hv, kv⟩ := hdep ⟨2, .data⟩ (by simp) rfl _ rfl
        have qv := kv _ rfl
        rw [hT] at hv
        obtain ⟨pv, rfl, lv, iv⟩ := hv
        have q : a.tmps[46]?.getD undef = .slice pv.ad lx pv.cap := by rw [← Array.getD_eq_getD_getElem?, qv]; unfold Pt.V; rw [lv, HXl.out]
        clear hsz hdep hout qv kv lv
        go_simp
        exact hK _ _ (Ex.refl _) (by rw [hT]; rfl)
      · rw [if_pos (by rfl)]
        intro K hK
        obtain ⟨v, hv, kv⟩ := hdep ⟨3, .data⟩ (by simp) rfl _ rfl
        have qv := kv _ rfl
        rw [hT] at hv
        obtain rfl : v = .int .i64 (lx : Int) := hv
        clear hsz hdep hout kv
        go_simp
        exact hK _ _ (Ex.refl _) (by rw [hT]; show Value.int .i64 (IntKind.i64.wrap _) = _; rw [IntWalk.i64_in _ (by omega), E8X.out])
      · rw [if_pos (by rfl)]
        intro K hK
        obtain ⟨v, hv, kv⟩ := hdep ⟨1, .data⟩ (by simp) rfl _ rfl
        have qv := kv _ rfl
        rw [hT] at hv
        obtain rfl : v = .int .i64 (sx : Int) := hv
        obtain ⟨u, hu, ku⟩ := hdep ⟨4, .data⟩ (by simp) rfl _ rfl
        have qu := ku _ rfl
        rw [hT] at hu
        obtain rfl : u = .int .i64 (sx : Int) := hu
        clear hsz hdep hout kv ku
        go_simp
        exact hK _ _ (Ex.refl _) (by rw [hT]; rfl)
      · rw [if_pos (by rfl)]
        intro K hK
        obtain ⟨v, hv, kv⟩ := hdep ⟨5, .data⟩ (by simp) rfl _ rfl
        have qv := kv _ rfl
        rw [hT] at hv
        obtain rfl : v = .bool false := hv
        exact wp_mv _ rfl (hK _ _ (Ex.refl _) (by rw [hT]; exact qv))
      · obtain ⟨vg, hvg, kg⟩ := hdep ⟨6, .guard⟩ (by simp) rfl _ rfl
        rw [hT] at hvg
        obtain rfl : vg = .bool false := hvg
        rw [if_pos (wanted_of rfl rfl rfl (kg _ rfl))]
        intro K hK
        have f := hout 13 (outB_spec (by kernel_rfl))
        exact wp_mv _ rfl (hK _ _ (Ex.refl _) (by rw [hT]; exact ⟨psb, f, lsb, isb.ext (Ex.trans (show Ex wr wr.drew from (Below.refl _ _).drew) hx)⟩))
      · obtain ⟨vg, hvg, kg⟩ := hdep ⟨6, .guard⟩ (by simp) rfl _ rfl
        rw [hT] at hvg
        obtain rfl : vg = .bool false := hvg
        rw [if_pos (wanted_of rfl rfl rfl (kg _ rfl))]
        intro K hK
        obtain ⟨v, hv, kv⟩ := hdep ⟨7, .data⟩ (by simp) rfl _ rfl
        have qv := kv _ rfl
        rw [hT] at hv
        obtain ⟨pv, rfl, lv, iv⟩ := hv
        have q : a.tmps[51]?.getD undef = .slice pv.ad sy pv.cap := by rw [← Array.getD_eq_getD_getElem?, qv]; unfold Pt.V; rw [lv, HSY.out]
        clear hsz hdep hout qv kv lv kg
        go_simp
        exact hK _ _ (Ex.refl _) (by rw [hT]; rfl)
      · obtain ⟨vg, hvg, kg⟩ := hdep ⟨6, .guard⟩ (by simp) rfl _ rfl
        rw [hT] at hvg
        obtain rfl : vg = .bool false := hvg
        rw [if_pos (wanted_of rfl rfl rfl (kg _ rfl))]
        intro K hK
        have f := hout 4 (outB_spec (by kernel_rfl))
        exact wp_mv _ rfl (hK _ _ (Ex.refl _) (by rw [hT]; exact ⟨yy, f, hyl, hyi.ext (Ex.trans (show Ex wr wr.drew from (Below.refl _ _).drew) hx)⟩))
      · obtain ⟨vg, hvg, kg⟩ := hdep ⟨6, .guard⟩ (by simp) rfl _ rfl
        rw [hT] at hvg
        obtain rfl : vg = .bool false := hvg
        rw [if_pos (wanted_of rfl rfl rfl (kg _ rfl))]
        intro K hK
        obtain ⟨v, hv, kv⟩ := hdep ⟨9, .data⟩ (by simp) rfl _ rfl
        have qv := kv _ rfl
        rw [hT] at hv
        obtain ⟨pv, rfl, lv, iv⟩ := hv
        have q : a.tmps[53]?.getD undef = .slice pv.ad ly pv.cap := by rw [← Array.getD_eq_getD_getElem?, qv]; unfold Pt.V; rw [lv, HYl.out]
        clear hsz hdep hout qv kv lv kg
        go_simp
        exact hK _ _ (Ex.refl _) (by rw [hT]; rfl)
      · obtain ⟨vg, hvg, kg⟩ := hdep ⟨6, .guard⟩ (by simp) rfl _ rfl
        rw [hT] at hvg
        obtain rfl : vg = .bool false := hvg
        rw [if_pos (wanted_of rfl rfl rfl (kg _ rfl))]
        intro K hK
        obtain ⟨v, hv, kv⟩ := hdep ⟨10, .data⟩ (by simp) rfl _ rfl
        have qv := kv _ rfl
        rw [hT] at hv
        obtain rfl : v = .int .i64 (ly : Int) := hv
        clear hsz hdep hout kv kg
        go_simp
        exact hK _ _ (Ex.refl _) (by rw [hT]; show Value.int .i64 (IntKind.i64.wrap _) = _; rw [IntWalk.i64_in _ (by omega), E8Y.out])
      · obtain ⟨vg, hvg, kg⟩ := hdep ⟨6, .guard⟩ (by simp) rfl _ rfl
        rw [hT] at hvg
        obtain rfl : vg = .bool false := hvg
        rw [if_pos (wanted_of rfl rfl rfl (kg _ rfl))]
        intro K hK
        obtain ⟨v, hv, kv⟩ := hdep ⟨8, .data⟩ (by simp) rfl _ rfl
        have qv := kv _ rfl
        rw [hT] at hv
        obtain rfl : v = .int .i64 (sy : Int) := hv
        obtain ⟨u, hu, ku⟩ := hdep ⟨11, .data⟩ (by simp) rfl _ rfl
        have qu := ku _ rfl
        rw [hT] at hu
        obtain rfl : u = .int .i64 (sy : Int) := hu
        clear hsz hdep hout kg kv ku
        go_simp
        exact hK _ _ (Ex.refl _) (by rw [hT]; rfl)
      · rw [if_pos (by rfl)]
        intro K hK
        obtain ⟨v, hv, kv⟩ := hdep ⟨6, .data⟩ (by simp) rfl _ rfl
        have qv := kv _ rfl
        rw [hT] at hv
        obtain rfl : v = .bool false := hv
        obtain ⟨u, hu, ku⟩ := hdep ⟨12, .data⟩ (by simp) rfl _ rfl
        have qu := ku _ rfl
        rw [hT] at hu
        obtain rfl : u = .bool false := hu
        clear hsz hdep hout
        go_simp
        exact hK _ _ (Ex.refl _) (by rw [hT]; rfl)
      · rw [if_pos (by rfl)]
        intro K hK
        obtain ⟨v, hv, kv⟩ := hdep ⟨13, .data⟩ (by simp) rfl _ rfl
        have qv := kv _ rfl
        rw [hT] at hv
        obtain rfl : v = .bool false := hv
        exact wp_mv _ rfl (hK _ _ (Ex.refl _) (by rw [hT]; exact qv))
      · obtain ⟨vg, hvg, kg⟩ := hdep ⟨14, .guard⟩ (by simp) rfl _ rfl
        rw [hT] at hvg
        obtain rfl : vg = .bool false := hvg
        rw [if_pos (wanted_of rfl rfl rfl (kg _ rfl))]
        intro K hK
        have f := hout 14 (outB_spec (by kernel_rfl))
        exact wp_mv _ rfl (hK _ _ (Ex.refl _) (by rw [hT]; exact ⟨psc, f, lsc, isc.ext (Ex.trans (show Ex wr wr.drew from (Below.refl _ _).drew) hx)⟩))
      · obtain ⟨vg, hvg, kg⟩ := hdep ⟨14, .guard⟩ (by simp) rfl _ rfl
        rw [hT] at hvg
        obtain rfl : vg = .bool false := hvg
        rw [if_pos (wanted_of rfl rfl rfl (kg _ rfl))]
        intro K hK
        obtain ⟨v, hv, kv⟩ := hdep ⟨15, .data⟩ (by simp) rfl _ rfl
        have qv := kv _ rfl
        rw [hT] at hv
        obtain ⟨pv, rfl, lv, iv⟩ := hv
        have q : a.tmps[59]?.getD undef = .slice pv.ad sz pv.cap := by rw [← Array.getD_eq_getD_getElem?, qv]; unfold Pt.V; rw [lv, HSZ.out]
        clear hsz hdep hout qv kv lv kg
        go_simp
        exact hK _ _ (Ex.refl _) (by rw [hT]; rfl)
      · obtain ⟨vg, hvg, kg⟩ := hdep ⟨14, .guard⟩ (by simp) rfl _ rfl
        rw [hT] at hvg
        obtain rfl : vg = .bool false := hvg
        rw [if_pos (wanted_of rfl rfl rfl (kg _ rfl))]
        intro K hK
        have f := hout 11 (outB_spec (by kernel_rfl))
        exact wp_mv _ rfl (hK _ _ (Ex.refl _) (by rw [hT]; exact f))
      · obtain ⟨vg, hvg, kg⟩ := hdep ⟨14, .guard⟩ (by simp) rfl _ rfl
        rw [hT] at hvg
        obtain rfl : vg = .bool false := hvg
        rw [if_pos (wanted_of rfl rfl rfl (kg _ rfl))]
        intro K hK
        obtain ⟨v, hv, kv⟩ := hdep ⟨17, .data⟩ (by simp) rfl _ rfl
        have qv := kv _ rfl
        rw [hT] at hv
        obtain rfl : v = .int .i64 (m : Int) := hv
        clear hsz hdep hout kv kg
        go_simp
        exact hK _ _ (Ex.refl _) (by rw [hT]; show Value.int .i64 (IntKind.i64.wrap _) = _; rw [IntWalk.i64_in _ (by omega), E8Z.out])
      · obtain ⟨vg, hvg, kg⟩ := hdep ⟨14, .guard⟩ (by simp) rfl _ rfl
        rw [hT] at hvg
        obtain rfl : vg = .bool false := hvg
        rw [if_pos (wanted_of rfl rfl rfl (kg _ rfl))]
        intro K hK
        obtain ⟨v, hv, kv⟩ := hdep ⟨16, .data⟩ (by simp) rfl _ rfl
        have qv := kv _ rfl
        rw [hT] at hv
        obtain rfl : v = .int .i64 (sz : Int) := hv
        obtain ⟨u, hu, ku⟩ := hdep ⟨18, .data⟩ (by simp) rfl _ rfl
        have qu := ku _ rfl
        rw [hT] at hu
        obtain rfl : u = .int .i64 (sz : Int) := hu
        clear hsz hdep hout kg kv ku
        go_simp
        exact hK _ _ (Ex.refl _) (by rw [hT]; rfl)
      · rw [if_pos (by rfl)]
        intro K hK
        obtain ⟨v, hv, kv⟩ := hdep ⟨14, .data⟩ (by simp) rfl _ rfl
        have qv := kv _ rfl
        rw [hT] at hv
        obtain rfl : v = .bool false := hv
        obtain ⟨u, hu, ku⟩ := hdep ⟨19, .data⟩ (by simp) rfl _ rfl
        have qu := ku _ rfl
        rw [hT] at hu
        obtain rfl : u = .bool false := hu
        clear hsz hdep hout
        go_simp
        exact hK _ _ (Ex.refl _) (by rw [hT]; rfl)
      · rw [if_pos (by rfl)]
        intro K hK
        obtain ⟨v, hv, kv⟩ := hdep ⟨20, .data⟩ (by simp) rfl _ rfl
        have qv := kv _ rfl
        rw [hT] at hv
        obtain rfl : v = .bool false := hv
        exact wp_mv _ rfl (hK _ _ (Ex.refl _) (by rw [hT]; exact qv))
      · obtain ⟨vg, hvg, kg⟩ := hdep ⟨21, .guard⟩ (by simp) rfl _ rfl
        rw [hT] at hvg
        obtain rfl : vg = .bool false := hvg
        rw [if_pos (wanted_of rfl rfl rfl (kg _ rfl))]
        intro K hK
        have f := hout 14 (outB_spec (by kernel_rfl))
        exact wp_mv _ rfl (hK _ _ (Ex.refl _) (by rw [hT]; exact ⟨psc, f, lsc, isc.ext (Ex.trans (show Ex wr wr.drew from (Below.refl _ _).drew) hx)⟩))
      · obtain ⟨vg, hvg, kg⟩ := hdep ⟨21, .guard⟩ (by simp) rfl _ rfl
        rw [hT] at hvg
        obtain rfl : vg = .bool false := hvg
        rw [if_pos (wanted_of rfl rfl rfl (kg _ rfl))]
        intro K hK
        have f := hout 11 (outB_spec (by kernel_rfl))
        exact wp_mv _ rfl (hK _ _ (Ex.refl _) (by rw [hT]; exact f))
      · obtain ⟨vg, hvg, kg⟩ := hdep ⟨21, .guard⟩ (by simp) rfl _ rfl
        rw [hT] at hvg
        obtain rfl : vg = .bool false := hvg
        rw [if_pos (wanted_of rfl rfl rfl (kg _ rfl))]
        intro K hK
        obtain ⟨v, hv, kv⟩ := hdep ⟨22, .data⟩ (by simp) rfl _ rfl
        have qv := kv _ rfl
        rw [hT] at hv
        obtain ⟨pv, rfl, lv, iv⟩ := hv
        obtain ⟨u, hu, ku⟩ := hdep ⟨23, .data⟩ (by simp) rfl _ rfl
        have qu := ku _ rfl
        rw [hT] at hu
        obtain rfl : u = .int .i64 (m : Int) := hu
        have q1 : a.tmps[66]?.getD undef = .slice pv.ad sz pv.cap := by rw [← Array.getD_eq_getD_getElem?, qv]; unfold Pt.V; rw [lv, HSZ.out]
        have q2 : a.tmps[67]?.getD undef = .int .i64 (m : Int) := by rw [← Array.getD_eq_getD_getElem?]; exact qu
        have hc1 : m ≤ pv.cap := by have := iv.cap; rw [lv, HSZ.out] at this; have := HMZ.out; omega
        have PT := Lib.hid (pt_takeV pv m w2 iv (by rw [lv, HSZ.out]; exact HMZ.out))
        rw [lv, HCZ.out] at PT
        clear hsz hdep hout qv kv qu ku lv kg
        go_simp
        exact hK _ _ (Ex.refl _) (by rw [hT]; exact ⟨_, (by unfold Pt.V; rw [HCl.out]), rfl, PT.out⟩)
      · obtain ⟨vg, hvg, kg⟩ := hdep ⟨21, .guard⟩ (by simp) rfl _ rfl
        rw [hT] at hvg
        obtain rfl : vg = .bool false := hvg
        rw [if_pos (wanted_of rfl rfl rfl (kg _ rfl))]
        intro K hK
        obtain ⟨v, hv, kv⟩ := hdep ⟨24, .data⟩ (by simp) rfl _ rfl
        have qv := kv _ rfl
        rw [hT] at hv
        obtain ⟨pv, rfl, lv, iv⟩ := hv
        have cv := pt_conv pv w2 iv
        rw [lv] at cv
        have q : a.tmps[68]?.getD undef = .slice pv.ad (C).length pv.cap := by rw [← Array.getD_eq_getD_getElem?, qv]; unfold Pt.V; rw [lv]
        generalize (C).length = nn at cv q
        clear hsz hdep hout qv kv lv kg
        go_simp
        exact hK _ _ (Ex.refl _) (by rw [hT]; rfl)
      · obtain ⟨vg, hvg, kg⟩ := hdep ⟨21, .guard⟩ (by simp) rfl _ rfl
        rw [hT] at hvg
        obtain rfl : vg = .bool false := hvg
        rw [if_pos (wanted_of rfl rfl rfl (kg _ rfl))]
        intro K hK
        have f := hout 12 (outB_spec (by kernel_rfl))
        exact wp_mv _ rfl (hK _ _ (Ex.refl _) (by rw [hT]; exact ⟨psa, f, lsa, isa.ext (Ex.trans (show Ex wr wr.drew from (Below.refl _ _).drew) hx)⟩))
      · obtain ⟨vg, hvg, kg⟩ := hdep ⟨21, .guard⟩ (by simp) rfl _ rfl
        rw [hT] at hvg
        obtain rfl : vg = .bool false := hvg
        rw [if_pos (wanted_of rfl rfl rfl (kg _ rfl))]
        intro K hK
        have f := hout 11 (outB_spec (by kernel_rfl))
        exact wp_mv _ rfl (hK _ _ (Ex.refl _) (by rw [hT]; exact f))
      · obtain ⟨vg, hvg, kg⟩ := hdep ⟨21, .guard⟩ (by simp) rfl _ rfl
        rw [hT] at hvg
        obtain rfl : vg = .bool false := hvg
        rw [if_pos (wanted_of rfl rfl rfl (kg _ rfl))]
        intro K hK
        obtain ⟨v, hv, kv⟩ := hdep ⟨26, .data⟩ (by simp) rfl _ rfl
        have qv := kv _ rfl
        rw [hT] at hv
        obtain ⟨pv, rfl, lv, iv⟩ := hv
        obtain ⟨u, hu, ku⟩ := hdep ⟨27, .data⟩ (by simp) rfl _ rfl
        have qu := ku _ rfl
        rw [hT] at hu
        obtain rfl : u = .int .i64 (m : Int) := hu
        have q1 : a.tmps[70]?.getD undef = .slice pv.ad sx pv.cap := by rw [← Array.getD_eq_getD_getElem?, qv]; unfold Pt.V; rw [lv, HSX.out]
        have q2 : a.tmps[71]?.getD undef = .int .i64 (m : Int) := by rw [← Array.getD_eq_getD_getElem?]; exact qu
        have hc1 : m ≤ pv.cap := by have := iv.cap; rw [lv, HSX.out] at this; have := HMSX.out; omega
        have PT := Lib.hid (pt_takeV pv m w2 iv (by rw [lv, HSX.out]; exact HMSX.out))
        rw [lv, HCX.out] at PT
        clear hsz hdep hout qv kv qu ku lv kg
        go_simp
        exact hK _ _ (Ex.refl _) (by rw [hT]; exact ⟨_, (by unfold Pt.V; rw [HCl.out]), rfl, PT.out⟩)
      · obtain ⟨vg, hvg, kg⟩ := hdep ⟨21, .guard⟩ (by simp) rfl _ rfl
        rw [hT] at hvg
        obtain rfl : vg = .bool false := hvg
        rw [if_pos (wanted_of rfl rfl rfl (kg _ rfl))]
        intro K hK
        obtain ⟨v, hv, kv⟩ := hdep ⟨28, .data⟩ (by simp) rfl _ rfl
        have qv := kv _ rfl
        rw [hT] at hv
        obtain ⟨pv, rfl, lv, iv⟩ := hv
        have cv := pt_conv pv w2 iv
        rw [lv] at cv
        have q : a.tmps[72]?.getD undef = .slice pv.ad (C).length pv.cap := by rw [← Array.getD_eq_getD_getElem?, qv]; unfold Pt.V; rw [lv]
        generalize (C).length = nn at cv q
        clear hsz hdep hout qv kv lv kg
        go_simp
        exact hK _ _ (Ex.refl _) (by rw [hT]; rfl)
      · obtain ⟨vg, hvg, kg⟩ := hdep ⟨21, .guard⟩ (by simp) rfl _ rfl
        rw [hT] at hvg
        obtain rfl : vg = .bool false := hvg
        rw [if_pos (wanted_of rfl rfl rfl (kg _ rfl))]
        intro K hK
        obtain ⟨v, hv, kv⟩ := hdep ⟨25, .data⟩ (by simp) rfl _ rfl
        have qv := kv _ rfl
        rw [hT] at hv
        obtain rfl : v = .string (strL C) := hv
        obtain ⟨u, hu, ku⟩ := hdep ⟨29, .data⟩ (by simp) rfl _ rfl
        have qu := ku _ rfl
        rw [hT] at hu
        obtain rfl : u = .string (strL C) := hu
        clear hsz hdep hout kg kv ku
        go_simp
        exact hK _ _ (Ex.refl _) (by rw [hT]; rfl)
    · intro a w2 hx hdef hsz hdone hout
      obtain ⟨v, hv, kv⟩ := hdone 21 _ (by omega) rfl
      have qv := kv _ rfl
      rw [hT] at hv
      obtain rfl : v = .bool false := hv
      obtain ⟨u, hu, ku⟩ := hdone 30 _ (by omega) rfl
      have qu := ku _ rfl
      rw [hT] at hu
      obtain rfl : u = .bool false := hu
      clear hdone kv ku hT
      have hA := arr_range a.tmps 101 hsz
      change a.tmps = #[a.tmps[0]?.getD undef, a.tmps[1]?.getD undef, a.tmps[2]?.getD undef, a.tmps[3]?.getD undef, a.tmps[4]?.getD undef, a.tmps[5]?.getD undef, a.tmps[6]?.getD undef, a.tmps[7]?.getD undef, a.tmps[8]?.getD undef, a.tmps[9]?.getD undef, a.tmps[10]?.getD undef, a.tmps[11]?.getD undef, a.tmps[12]?.getD undef, a.tmps[13]?.getD undef, a.tmps[14]?.getD undef, a.tmps[15]?.getD undef, a.tmps[16]?.getD undef, a.tmps[17]?.getD undef, a.tmps[18]?.getD undef, a.tmps[19]?.getD undef, a.tmps[20]?.getD undef, a.tmps[21]?.getD undef, a.tmps[22]?.getD undef, a.tmps[23]?.getD undef, a.tmps[24]?.getD undef, a.tmps[25]?.getD undef, a.tmps[26]?.getD undef, a.tmps[27]?.getD undef, a.tmps[28]?.getD undef, a.tmps[29]?.getD undef, a.tmps[30]?.getD undef, a.tmps[31]?.getD undef, a.tmps[32]?.getD undef, a.tmps[33]?.getD undef, a.tmps[34]?.getD undef, a.tmps[35]?.getD undef, a.tmps[36]?.getD undef, a.tmps[37]?.getD undef, a.tmps[38]?.getD undef, a.tmps[39]?.getD undef, a.tmps[40]?.getD undef, a.tmps[41]?.getD undef, a.tmps[42]?.getD undef, a.tmps[43]?.getD undef, a.tmps[44]?.getD undef, a.tmps[45]?.getD undef, a.tmps[46]?.getD undef, a.tmps[47]?.getD undef, a.tmps[48]?.getD undef, a.tmps[49]?.getD undef, a.tmps[50]?.getD undef, a.tmps[51]?.getD undef, a.tmps[52]?.getD undef, a.tmps[53]?.getD undef, a.tmps[54]?.getD undef, a.tmps[55]?.getD undef, a.tmps[56]?.getD undef, a.tmps[57]?.getD undef, a.tmps[58]?.getD undef, a.tmps[59]?.getD undef, a.tmps[60]?.getD undef, a.tmps[61]?.getD undef, a.tmps[62]?.getD undef, a.tmps[63]?.getD undef, a.tmps[64]?.getD undef, a.tmps[65]?.getD undef, a.tmps[66]?.getD undef, a.tmps[67]?.getD undef, a.tmps[68]?.getD undef, a.tmps[69]?.getD undef, a.tmps[70]?.getD undef, a.tmps[71]?.getD undef, a.tmps[72]?.getD undef, a.tmps[73]?.getD undef, a.tmps[74]?.getD undef, a.tmps[75]?.getD undef, a.tmps[76]?.getD undef, a.tmps[77]?.getD undef, a.tmps[78]?.getD undef, a.tmps[79]?.getD undef, a.tmps[80]?.getD undef, a.tmps[81]?.getD undef, a.tmps[82]?.getD undef, a.tmps[83]?.getD undef, a.tmps[84]?.getD undef, a.tmps[85]?.getD undef, a.tmps[86]?.getD undef, a.tmps[87]?.getD undef, a.tmps[88]?.getD undef, a.tmps[89]?.getD undef, a.tmps[90]?.getD undef, a.tmps[91]?.getD undef, a.tmps[92]?.getD undef, a.tmps[93]?.getD undef, a.tmps[94]?.getD undef, a.tmps[95]?.getD undef, a.tmps[96]?.getD undef, a.tmps[97]?.getD undef, a.tmps[98]?.getD undef, a.tmps[99]?.getD undef, a.tmps[100]?.getD undef] at hA
      have e0 := hout 0 (fun i o _ h => outB_spec (by kernel_rfl) i o h)
      have e1 := hout 1 (fun i o _ h => outB_spec (by kernel_rfl) i o h)
      have e2 := hout 2 (fun i o _ h => outB_spec (by kernel_rfl) i o h)
      have e3 := hout 3 (fun i o _ h => outB_spec (by kernel_rfl) i o h)
      have e4 := hout 4 (fun i o _ h => outB_spec (by kernel_rfl) i o h)
      have e5 := hout 5 (fun i o _ h => outB_spec (by kernel_rfl) i o h)
      have e6 := hout 6 (fun i o _ h => outB_spec (by kernel_rfl) i o h)
      have e7 := hout 7 (fun i o _ h => outB_spec (by kernel_rfl) i o h)
      have e8 := hout 8 (fun i o _ h => outB_spec (by kernel_rfl) i o h)
      have e9 := hout 9 (fun i o _ h => outB_spec (by kernel_rfl) i o h)
      have e10 := hout 10 (fun i o _ h => outB_spec (by kernel_rfl) i o h)
      have e11 := hout 11 (fun i o _ h => outB_spec (by kernel_rfl) i o h)
      have e12 := hout 12 (fun i o _ h => outB_spec (by kernel_rfl) i o h)
      have e13 := hout 13 (fun i o _ h => outB_spec (by kernel_rfl) i o h)
      have e14 := hout 14 (fun i o _ h => outB_spec (by kernel_rfl) i o h)
      have e15 := hout 15 (fun i o _ h => outB_spec (by kernel_rfl) i o h)
      have e16 := hout 16 (fun i o _ h => outB_spec (by kernel_rfl) i o h)
      have e17 := hout 17 (fun i o _ h => outB_spec (by kernel_rfl) i o h)
      have e18 := hout 18 (fun i o _ h => outB_spec (by kernel_rfl) i o h)
      have e19 := hout 19 (fun i o _ h => outB_spec (by kernel_rfl) i o h)
      have e20 := hout 20 (fun i o _ h => outB_spec (by kernel_rfl) i o h)
      have e21 := hout 21 (fun i o _ h => outB_spec (by kernel_rfl) i o h)
      have e22 := hout 22 (fun i o _ h => outB_spec (by kernel_rfl) i o h)
      have e23 := hout 23 (fun i o _ h => outB_spec (by kernel_rfl) i o h)
      have e24 := hout 24 (fun i o _ h => outB_spec (by kernel_rfl) i o h)
      have e25 := hout 25 (fun i o _ h => outB_spec (by kernel_rfl) i o h)
      have e26 := hout 26 (fun i o _ h => outB_spec (by kernel_rfl) i o h)
      have e27 := hout 27 (fun i o _ h => outB_spec (by kernel_rfl) i o h)
      have e28 := hout 28 (fun i o _ h => outB_spec (by kernel_rfl) i o h)
      have e29 := hout 29 (fun i o _ h => outB_spec (by kernel_rfl) i o h)
      have e30 := hout 30 (fun i o _ h => outB_spec (by kernel_rfl) i o h)
      have e31 := hout 31 (fun i o _ h => outB_spec (by kernel_rfl) i o h)
      have e32 := hout 32 (fun i o _ h => outB_spec (by kernel_rfl) i o h)
      have e33 := hout 33 (fun i o _ h => outB_spec (by kernel_rfl) i o h)
      have e34 := hout 34 (fun i o _ h => outB_spec (by kernel_rfl) i o h)
      have e35 := hout 35 (fun i o _ h => outB_spec (by kernel_rfl) i o h)
      have e36 := hout 36 (fun i o _ h => outB_spec (by kernel_rfl) i o h)
      have e37 := hout 37 (fun i o _ h => outB_spec (by kernel_rfl) i o h)
      have e38 := hout 38 (fun i o _ h => outB_spec (by kernel_rfl) i o h)
      have e39 := hout 39 (fun i o _ h => outB_spec (by kernel_rfl) i o h)
      have e40 := hout 40 (fun i o _ h => outB_spec (by kernel_rfl) i o h)
      have e41 := hout 41 (fun i o _ h => outB_spec (by kernel_rfl) i o h)
      have e42 := hout 42 (fun i o _ h => outB_spec (by kernel_rfl) i o h)
      have e43 := hout 43 (fun i o _ h => outB_spec (by kernel_rfl) i o h)
      have e76 := hout 76 (fun i o _ h => outB_spec (by kernel_rfl) i o h)
      have e77 := hout 77 (fun i o _ h => outB_spec (by kernel_rfl) i o h)
      have e78 := hout 78 (fun i o _ h => outB_spec (by kernel_rfl) i o h)
      have e79 := hout 79 (fun i o _ h => outB_spec (by kernel_rfl) i o h)
      have e80 := hout 80 (fun i o _ h => outB_spec (by kernel_rfl) i o h)
      have e81 := hout 81 (fun i o _ h => outB_spec (by kernel_rfl) i o h)
      have e82 := hout 82 (fun i o _ h => outB_spec (by kernel_rfl) i o h)
      have e83 := hout 83 (fun i o _ h => outB_spec (by kernel_rfl) i o h)
      have e84 := hout 84 (fun i o _ h => outB_spec (by kernel_rfl) i o h)
      have e85 := hout 85 (fun i o _ h => outB_spec (by kernel_rfl) i o h)
      have e86 := hout 86 (fun i o _ h => outB_spec (by kernel_rfl) i o h)
      have e87 := hout 87 (fun i o _ h => outB_spec (by kernel_rfl) i o h)
      have e88 := hout 88 (fun i o _ h => outB_spec (by kernel_rfl) i o h)
      have e89 := hout 89 (fun i o _ h => outB_spec (by kernel_rfl) i o h)
      have e90 := hout 90 (fun i o _ h => outB_spec (by kernel_rfl) i o h)
      have e91 := hout 91 (fun i o _ h => outB_spec (by kernel_rfl) i o h)
      have e92 := hout 92 (fun i o _ h => outB_spec (by kernel_rfl) i o h)
      have e93 := hout 93 (fun i o _ h => outB_spec (by kernel_rfl) i o h)
      have e94 := hout 94 (fun i o _ h => outB_spec (by kernel_rfl) i o h)
      have e95 := hout 95 (fun i o _ h => outB_spec (by kernel_rfl) i o h)
      have e96 := hout 96 (fun i o _ h => outB_spec (by kernel_rfl) i o h)
      have e97 := hout 97 (fun i o _ h => outB_spec (by kernel_rfl) i o h)
      have e98 := hout 98 (fun i o _ h => outB_spec (by kernel_rfl) i o h)
      have e99 := hout 99 (fun i o _ h => outB_spec (by kernel_rfl) i o h)
      have e100 := hout 100 (fun i o _ h => outB_spec (by kernel_rfl) i o h)
      simp only [Array.getD_eq_getD_getElem?, List.getElem?_toArray, List.getElem?_cons_zero, List.getElem?_cons_succ, Option.getD_some] at e0 e1 e2 e3 e4 e5 e6 e7 e8 e9 e10 e11 e12 e13 e14 e15 e16 e17 e18 e19 e20 e21 e22 e23 e24 e25 e26 e27 e28 e29 e30 e31 e32 e33 e34 e35 e36 e37 e38 e39 e40 e41 e42 e43 e76 e77 e78 e79 e80 e81 e82 e83 e84 e85 e86 e87 e88 e89 e90 e91 e92 e93 e94 e95 e96 e97 e98 e99 e100
      rw [e0, e1, e2, e3, e4, e5, e6, e7, e8, e9, e10, e11, e12, e13, e14, e15, e16, e17, e18, e19, e20, e21, e22, e23, e24, e25, e26, e27, e28, e29, e30, e31, e32, e33, e34, e35, e36, e37, e38, e39, e40, e41, e42, e43, e76, e77, e78, e79, e80, e81, e82, e83, e84, e85, e86, e87, e88, e89, e90, e91, e92, e93, e94, e95, e96, e97, e98, e99, e100] at hA
      clear e0 e1 e2 e3 e4 e5 e6 e7 e8 e9 e10 e11 e12 e13 e14 e15 e16 e17 e18 e19 e20 e21 e22 e23 e24 e25 e26 e27 e28 e29 e30 e31 e32 e33 e34 e35 e36 e37 e38 e39 e40 e41 e42 e43 e76 e77 e78 e79 e80 e81 e82 e83 e84 e85 e86 e87 e88 e89 e90 e91 e92 e93 e94 e95 e96 e97 e98 e99 e100 hout
      have hds2 : a.defers = [] := hdef
      have ea : a = ⟨a.tmps, a.defers⟩ := rfl
      have s65 : a.tmps[65]?.getD undef = .bool false := by simpa [Array.getD_eq_getD_getElem?] using qv
      have s74 : a.tmps[74]?.getD undef = .bool false := by simpa [Array.getD_eq_getD_getElem?] using qu
      rw [hA, hds2, s65, s74] at ea
      clear hA hds2 s65 qv s74 qu hdef
      generalize a.tmps[44]?.getD undef = y44 at ea
      generalize a.tmps[45]?.getD undef = y45 at ea
      generalize a.tmps[46]?.getD undef = y46 at ea
      generalize a.tmps[47]?.getD undef = y47 at ea
      generalize a.tmps[48]?.getD undef = y48 at ea
      generalize a.tmps[49]?.getD undef = y49 at ea
      generalize a.tmps[50]?.getD undef = y50 at ea
      generalize a.tmps[51]?.getD undef = y51 at ea
      generalize a.tmps[52]?.getD undef = y52 at ea
      generalize a.tmps[53]?.getD undef = y53 at ea
      generalize a.tmps[54]?.getD undef = y54 at ea
      generalize a.tmps[55]?.getD undef = y55 at ea
      generalize a.tmps[56]?.getD undef = y56 at ea
      generalize a.tmps[57]?.getD undef = y57 at ea
      generalize a.tmps[58]?.getD undef = y58 at ea
      generalize a.tmps[59]?.getD undef = y59 at ea
      generalize a.tmps[60]?.getD undef = y60 at ea
      generalize a.tmps[61]?.getD undef = y61 at ea
      generalize a.tmps[62]?.getD undef = y62 at ea
      generalize a.tmps[63]?.getD undef = y63 at ea
      generalize a.tmps[64]?.getD undef = y64 at ea
      generalize a.tmps[66]?.getD undef = y66 at ea
      generalize a.tmps[67]?.getD undef = y67 at ea
      generalize a.tmps[68]?.getD undef = y68 at ea
      generalize a.tmps[69]?.getD undef = y69 at ea
      generalize a.tmps[70]?.getD undef = y70 at ea
      generalize a.tmps[71]?.getD undef = y71 at ea
      generalize a.tmps[72]?.getD undef = y72 at ea
      generalize a.tmps[73]?.getD undef = y73 at ea
      generalize a.tmps[75]?.getD undef = y75 at ea
      clear hsz
      subst ea
      have bx : Below wr.heap.size wr w2 := Below.trans (Below.refl _ _).drew hx
      unfold wpOp
      simp only [List.getElem?_toArray, List.getElem?_cons_zero, List.getElem?_cons_succ]
      rw [if_pos (by rfl)]
      left
      have HSAI := Lib.hid (isa.ext (show Ex wr w2 from bx))
      have HSBI := Lib.hid (isb.ext (show Ex wr w2 from bx))
      have HXI := Lib.hid (hxi.ext (show Ex wr w2 from bx))
      have HYI := Lib.hid (hyi.ext (show Ex wr w2 from bx))
      have bw5 := bw4.trans (bx.mono bz4)
      have LA := Lib.hid lsa
      have LB := Lib.hid lsb
      clear isa isb isc hxi hyi bw4 bz4 bx hx lsa lsb lsc HCX HCZ HCl HMZ E8X E8Y E8Z
      rw [← HVA.out, ← HVB.out, ← HVC.out, HXV.out, HYV.out]
      go_simp
      go_wp2_with fail
      rw [HVA.out, HVB.out, ← HXV.out, ← HYV.out]
      go_loopw [15] (fun i wr => ∃ j : Nat, j ≤ m ∧ i = .int .i64 j ∧ Hid (psa.In wr wr.heap.size) ∧ Hid (psb.In wr wr.heap.size) ∧ Hid (xx.In wr wr.heap.size) ∧ Hid (yy.In wr wr.heap.size) ∧ Below w.heap.size w wr) (fun i _ => m - (intOf i).toNat)
      case atStart => exact ⟨0, by omega, rfl, HSAI, HSBI, HXI, HYI, bw5⟩
      case round =>
        clear HSAI HSBI HXI HYI bw5
        obtain ⟨j, hj, rfl, ia, ib, ix, iy, bwr⟩ := hrel
        by_cases hlt : j < m
        · obtain ⟨a1, o1, e1, _, c1⟩ := ia.out.read (by rw [LA.out, HSX.out]; have := HMSX.out; omega)
          obtain ⟨a2, o2, e2, _, c2⟩ := ib.out.read (by rw [LB.out, HSY.out]; have := HMY.out; have := HSYm.out; omega)
          obtain ⟨a3, o3, e3, _, c3⟩ := ix.out.read (by rw [HXL.out, HXl.out]; have := HMX2.out; omega)
          obtain ⟨a4, o4, e4, _, c4⟩ := iy.out.read (by rw [HYL.out, HYl.out]; have := HMY.out; omega)
          have k1 := c1 j (by rw [LA.out, HSX.out]; have := HMSX.out; omega)
          have k2 := c2 j (by rw [LB.out, HSY.out]; have := HMY.out; have := HSYm.out; omega)
          have k3 := c3 j (by rw [HXL.out, HXl.out]; have := HMX2.out; omega)
          have k4 := c4 j (by rw [HYL.out, HYl.out]; have := HMY.out; omega)
          have v1 : psa.V = .slice (some ⟨a1, o1, none⟩) sx psa.cap := by unfold Pt.V; rw [LA.out, HSX.out, e1]
          have v2 : psb.V = .slice (some ⟨a2, o2, none⟩) sy psb.cap := by unfold Pt.V; rw [LB.out, HSY.out, e2]
          have v3 : xx.V = .slice (some ⟨a3, o3, none⟩) lx xx.cap := by unfold Pt.V; rw [HXL.out, HXl.out, e3]
          have v4 : yy.V = .slice (some ⟨a4, o4, none⟩) ly yy.cap := by unfold Pt.V; rw [HYL.out, HYl.out, e4]
          have XX := HXY.out j hlt
          rw [LA.out] at k1
          rw [LB.out] at k2
          rw [HXL.out] at k3
          rw [HYL.out] at k4
          generalize SX.getD j 0 = b1 at k1 XX
          generalize SY.getD j 0 = b2 at k2 XX
          generalize X.getD j 0 = b3 at k3 XX
          generalize Y.getD j 0 = b4 at k4 XX
          have EQ : bits .xor .u8 (b1.toNat : Int) (b2.toNat : Int) = bits .xor .u8 (b3.toNat : Int) (b4.toNat : Int) := by rw [xor_val, xor_val, XX]
          have lt1 : j < sx := by have := HMSX.out; omega
          have lt2 : j < sy := by have := HMY.out; have := HSYm.out; omega
          have lt3 : j < lx := by have := HMX2.out; omega
          have lt4 : j < ly := by have := HMY.out; omega
          rw [v1, v2, v3, v4]
          have V1 := Lib.hid v1
          have V2 := Lib.hid v2
          have V3 := Lib.hid v3
          have V4 := Lib.hid v4
          clear c1 c2 c3 c4 e1 e2 e3 e4 v1 v2 v3 v4 XX
          go_wp2_with fail
          go_region
          go_wp2_with fail
          have xd : Ex wr wr.drew := (Below.refl _ _).drew
          exact ⟨⟨j + 1, by omega, by go_num, Lib.hid (ia.out.ext xd), Lib.hid (ib.out.ext xd), Lib.hid (ix.out.ext xd), Lib.hid (iy.out.ext xd), bwr.drew⟩, by simp [intOf]; omega⟩
        · obtain rfl : j = m := by omega
          have KN := Lib.hid (known4_any wr)
          go_wp2_with fail
          refine KN.out.mono ?_
          rintro e w6 ⟨rfl, x6⟩
          have bw6 : Below w.heap.size w w6 := bwr.trans (x6.mono bwr.size)
          clear x6 KN
          go_wp2_with fail
          go_ret
          exact ⟨rfl, bw6⟩
theorem veilTurns_law (v0 : Value) (n : Int) (v2 v3 v4 : Value) (w : World) (h0 : ∃ l : List UInt8, l.length = 16 ∧ v0 = digV l) (h1 : (Lit.int .u64 n).wf = true)
    (h2 : ∃ p : Pt, v2 = p.V ∧ p.In w w.heap.size ∧ p.l.length ≤ 9223372036854775807) (h3 : ∃ p : Pt, v3 = p.V ∧ p.In w w.heap.size ∧ p.l.length ≤ 9223372036854775807) (h4 : ∃ p : Pt, v4 = p.V ∧ p.In w w.heap.size ∧ p.l.length ≤ 9223372036854775807) :
    Calls Try.prog 15 #[v0, .int .u64 n, v2, v3, v4] w fun e w' => e = .returned (.bool true) ∧ Below w.heap.size w w' := by
  obtain ⟨A, hA, rfl⟩ := h0
  obtain ⟨p, rfl, hp, hp2⟩ := h2
  obtain ⟨q, rfl, hq, hq2⟩ := h3
  obtain ⟨r, rfl, hr, hr2⟩ := h4
  have r1 : 0 ≤ n ∧ n < 18446744073709551616 := by simp [Lit.wf, IntKind.min, IntKind.max, IntKind.signed, IntKind.bits] at h1; omega
  exact vturns_any A hA n r1.1 r1.2 p q r w hp hq hr hp2 hq2 hr2
end Go.Proofs.Ytkneeocicbadjaa
