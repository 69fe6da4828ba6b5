/- walks: BlendStreams -/
import Derived.Test.YtkneeocicbadjaaBlH
import Derived.Test.YtkneeocicbadjaaBlK
import Derived.Test.YtkneeocicbadjaaBlL
import Derived.Test.YtkneeocicbadjaaKnA
namespace Go.Proofs.Ytkneeocicbadjaa
open Go.RowKit
theorem pt_takeS (p : Pt) (n : Nat) (w : World) {B : Nat} (hp : p.In w B) (hn : n ≤ p.l.length) : (Pt.mk p.ad p.cap (p.l.take n)).In w B := by
  have hl : (p.l.take n).length = n := by rw [List.length_take]; omega
  refine ⟨by simp only [hl]; have := hp.cap; omega, hp.nil, fun h0 => ?_⟩
  simp only [hl] at h0 ⊢
  obtain ⟨a, o, e, ha, hcc⟩ := hp.read (by omega)
  refine ⟨a, o, e, ha, fun i hi => ?_⟩
  rw [hcc i (by omega)]
  simp [List.getD, List.getElem?_take, hi]
theorem wp_asg {P : Program} {Q : Exit → Act → World → Prop} {o : Oper} {a : Act} {w : World} {K : Act → World → Prop} (x : Operand) (ho : o.op = .assign x) (h : K (a.put o.dst (a.eval x)) w) : o.wp P a w K Q := by
  unfold Oper.wp execOp
  simp only [ho]
  exact h
theorem strB_take (kl : List UInt8) (n : Int) (M : Nat) : ∀ d, (strB kl n (M + d)).take (16 * M) = strB kl n M
  | 0 => by rw [Nat.add_zero, List.take_of_length_le (by rw [strB_len]; omega)]
  | d + 1 => by rw [← Nat.add_assoc, strB_succ, List.take_append_of_le_length (by rw [strB_len]; omega), strB_take kl n M d]
theorem stream_take (kl : List UInt8) (n : Int) (m1 m2 : Nat) (h : m1 ≤ m2) : (streamL kl n m2).take m1 = streamL kl n m1 := by
  unfold streamL
  rw [List.take_take, Nat.min_eq_left h]
  obtain ⟨d, hd⟩ : ∃ d, (m2 + 15) / 16 = (m1 + 15) / 16 + d := ⟨(m2 + 15) / 16 - (m1 + 15) / 16, by omega⟩
  rw [hd, ← strB_take kl n ((m1 + 15) / 16) d, List.take_take, Nat.min_eq_left (by omega)]
theorem strB_block (kl : List UInt8) (n : Int) (j : Nat) : ∀ d, ((strB kl n (j + 1 + d)).drop (16 * j)).take 16 = sumL (kl ++ (numL n ++ numL (j : Int)))
  | 0 => by
    rw [Nat.add_zero, strB_succ, List.drop_append_of_le_length (by rw [strB_len]; omega), List.drop_of_length_le (by rw [strB_len]; omega), List.nil_append, List.take_of_length_le (by rw [sumL_len]; omega)]
  | d + 1 => by
    rw [← Nat.add_assoc, strB_succ, List.drop_append_of_le_length (by rw [strB_len]; omega), List.take_append_of_le_length (by rw [List.length_drop, strB_len]; omega), strB_block kl n j d]
theorem stream_block (kl : List UInt8) (n : Int) (m j : Nat) (h : 16 * j + 16 ≤ m) : ((streamL kl n m).drop (16 * j)).take 16 = sumL (kl ++ (numL n ++ numL (j : Int))) := by
  unfold streamL
  obtain ⟨d, hd⟩ : ∃ d, (m + 15) / 16 = j + 1 + d := ⟨(m + 15) / 16 - (j + 1), by omega⟩
  rw [List.drop_take, List.take_take, Nat.min_eq_left (by omega), hd, strB_block]
set_option maxHeartbeats 16000000 in
set_option maxRecDepth 100000 in
theorem bstreams_any (A : List UInt8) (hAl : A.length = 16) (n c1 c2 : Int) (hn0 : 0 ≤ n) (hn1 : n < 18446744073709551616) (hc1 : -9223372036854775808 ≤ c1 ∧ c1 ≤ 9223372036854775807) (hc2 : -9223372036854775808 ≤ c2 ∧ c2 ≤ 9223372036854775807) (w : World) :
    Calls Try.prog 5 #[digV A, .int .u64 n, .int .i64 c1, .int .i64 c2] w fun e w' => e = .returned (.bool true) ∧ Below w.heap.size w w' := by
  obtain ⟨da, hda⟩ : ∃ ds, ds = Lib.byteCells A := ⟨_, rfl⟩
  have hvala : digV A = .agg da.toArray := by rw [hda]; rfl
  have hdla : da.length = 16 := by rw [hda]; simp [Lib.byteCells, hAl]
  have hi5 := Lib.hid (show (Try.prog.info? 24).map (·.size) = some da.length by rw [sm_dsize, hdla])
  obtain ⟨dd, hd⟩ : ∃ d, Try.prog.underlying 24 = some d ∧ d.isRow = true := ⟨_, Try.underlying24, rfl⟩
  have HD := Lib.hid hd
  have HVA := Lib.hid hvala
  rw [hvala]
  clear hd hda hdla hvala
  have hr1 := Lib.hid (Bk.new (w := w) rfl 24 da.toArray)
  have x0 : Ex w (w.alloc (.cells da.toArray 24)) := (Below.refl _ _).alloc (Nat.le_refl _) _
  go_enter Try.func5, Try.ntmps5
  go_wp2_with fail
  generalize w.alloc (.cells da.toArray 24) = w0 at x0 hr1 ⊢
  have W1 := Lib.hid (within_any c1 0 200 hc1 (by omega) (by omega) (by omega) w0)
  refine W1.out.mono ?_
  rintro e w1 ⟨⟨m1, rfl, hm0, hm1⟩, rfl⟩
  clear W1 hm0
  have W2 := Lib.hid (within_any c2 m1 300 hc2 (by omega) (by omega) (by omega) w1)
  go_wp2_with fail
  refine W2.out.mono ?_
  rintro e w2 ⟨⟨m2, rfl, hm2, hm3⟩, rfl⟩
  clear W2
  have hm12 : m1 ≤ m2 := by omega
  clear hm2
  obtain ⟨Z1, hZ1⟩ : ∃ z, z = streamL A n m1 := ⟨_, rfl⟩
  obtain ⟨Z2, hZ2⟩ : ∃ z, z = streamL A n m2 := ⟨_, rfl⟩
  have ST1 := Lib.hid (show ∀ W : World, Calls Try.prog 26 #[digV A, .int .u64 n, .int .i64 m1] W (PtPost Z1 W) from fun W => by rw [hZ1]; exact stream_any A hAl n hn0 hn1 m1 (by omega) W)
  have ST2 := Lib.hid (show ∀ W : World, Calls Try.prog 26 #[digV A, .int .u64 n, .int .i64 m2] W (PtPost Z2 W) from fun W => by rw [hZ2]; exact stream_any A hAl n hn0 hn1 m2 (by omega) W)
  have HZ1 := Lib.hid (show Z1.length = m1 by rw [hZ1, streamL_len])
  have HZ2 := Lib.hid (show Z2.length = m2 by rw [hZ2, streamL_len])
  have HTK := Lib.hid (show Z2.take m1 = Z1 by rw [hZ1, hZ2, stream_take A n m1 m2 hm12])
  have HBL := Lib.hid (show ∀ j : Nat, 16 * j + 16 ≤ m2 → (Z2.drop (16 * j)).take 16 = sumL (A ++ (numL n ++ numL (j : Int))) from fun j h => by rw [hZ2]; exact stream_block A n m2 j h)
  have RA := Lib.hid hr1.out.range
  have gl1 := hr1.out.lt
  have bw : Below w.heap.size w w2 := x0
  have bz := bw.size
  clear hZ1 hZ2 x0
  go_wp2_with fail
  generalize w2 = wr at *
  obtain ⟨T, hT⟩ : ∃ T : List As, T = [.is (digV A), .is (.int .u64 n), .is (.int .i64 m1), .pt Z1, .is (digV A), .is (.int .u64 n), .is (.int .i64 m2), .pt Z2, .pt Z1] := ⟨_, rfl⟩
  refine wp_region_flow 9 (tabPhi T) (by kernel_rfl) rfl (by kernel_rfl) (by kernel_rfl) (by kernel_rfl) (tabPhi_stable T) (fitB_spec (by kernel_rfl)) ?_ ?_
  · intro i o hi ho
    have hi' : i = 0 ∨ i = 1 ∨ i = 2 ∨ i = 3 ∨ i = 4 ∨ i = 5 ∨ i = 6 ∨ i = 7 ∨ i = 8 := by omega
    rcases hi' with rfl | rfl | rfl | rfl | rfl | rfl | rfl | rfl | rfl
    all_goals (simp only [List.getElem?_toArray, List.getElem?_cons_zero, List.getElem?_cons_succ, Option.some.injEq] at ho; subst ho; intro a w2 hx hsz hdep hout)
    · rw [if_pos (by rfl)]
      intro K hK
      have f := hout 4 (outB_spec (by kernel_rfl))
      exact wp_load_mid 24 _ rfl w.heap.size 0 f da dd (fun x v hv => (hx.cell (p := ⟨w.heap.size, 0 + x, none⟩) (by show w.heap.size < wr.heap.size; omega)).trans (RA.out x v hv)) HD.out.1 HD.out.2 hi5.out (hK _ _ (Ex.refl _) (by rw [hT]; exact HVA.out.symm))
    · rw [if_pos (by rfl)]
      intro K hK
      have f := hout 1 (outB_spec (by kernel_rfl))
      exact wp_mv _ rfl (hK _ _ (Ex.refl _) (by rw [hT]; exact f))
    · rw [if_pos (by rfl)]
      intro K hK
      have f := hout 9 (outB_spec (by kernel_rfl))
      exact wp_mv _ rfl (hK _ _ (Ex.refl _) (by rw [hT]; exact f))
    · rw [if_pos (by rfl)]
      intro K hK
      obtain ⟨v, hv, kv⟩ := hdep ⟨0, .data⟩ (by simp) rfl _ rfl
      have qv := kv _ rfl
      rw [hT] at hv
      obtain rfl : v = digV A := hv
      obtain ⟨u, hu, ku⟩ := hdep ⟨1, .data⟩ (by simp) rfl _ rfl
      have qu := ku _ rfl
      rw [hT] at hu
      obtain rfl : u = .int .u64 n := hu
      obtain ⟨x, hx, kx⟩ := hdep ⟨2, .data⟩ (by simp) rfl _ rfl
      have qx := kx _ rfl
      rw [hT] at hx
      obtain rfl : x = .int .i64 m1 := hx
      go_simp
      refine (ST1.out w2).mono ?_
      rintro e w3 ⟨p, rfl, hl, hin, hex⟩
      exact hK _ _ hex (by rw [hT]; exact ⟨p, rfl, hl, hin⟩)
    · rw [if_pos (by rfl)]
      intro K hK
      have f := hout 4 (outB_spec (by kernel_rfl))
      exact wp_load_mid 24 _ rfl w.heap.size 0 f da dd (fun x v hv => (hx.cell (p := ⟨w.heap.size, 0 + x, none⟩) (by show w.heap.size < wr.heap.size; omega)).trans (RA.out x v hv)) HD.out.1 HD.out.2 hi5.out (hK _ _ (Ex.refl _) (by rw [hT]; exact HVA.out.symm))
    · rw [if_pos (by rfl)]
      intro K hK
      have f := hout 1 (outB_spec (by kernel_rfl))
      exact wp_mv _ rfl (hK _ _ (Ex.refl _) (by rw [hT]; exact f))
    · rw [if_pos (by rfl)]
      intro K hK
      have f := hout 10 (outB_spec (by kernel_rfl))
      exact wp_mv _ rfl (hK _ _ (Ex.refl _) (by rw [hT]; exact f))
    · rw [if_pos (by rfl)]
      intro K hK
      obtain ⟨v, hv, kv⟩ := hdep ⟨4, .data⟩ (by simp) rfl _ rfl
      have qv := kv _ rfl
      rw [hT] at hv
      obtain rfl : v = digV A := hv
      obtain ⟨u, hu, ku⟩ := hdep ⟨5, .data⟩ (by simp) rfl _ rfl
      have qu := ku _ rfl
      rw [hT] at hu
      obtain rfl : u = .int .u64 n := hu
      obtain ⟨x, hx, kx⟩ := hdep ⟨6, .data⟩ (by simp) rfl _ rfl
      have qx := kx _ rfl
      rw [hT] at hx
      obtain rfl : x = .int .i64 m2 := hx
      go_simp
      refine (ST2.out w2).mono ?_
      rintro e w3 ⟨p, rfl, hl, hin, hex⟩
      exact hK _ _ hex (by rw [hT]; exact ⟨p, rfl, hl, hin⟩)
    · rw [if_pos (by rfl)]
      intro K hK
      obtain ⟨v, hv, kv⟩ := hdep ⟨3, .data⟩ (by simp) rfl _ rfl
      have qv := kv _ rfl
      rw [hT] at hv
      obtain ⟨pv, rfl, lv, iv⟩ := hv
      exact wp_asg _ rfl (hK _ _ (Ex.refl _) (by rw [hT]; exact ⟨pv, qv, lv, iv⟩))
  · intro a w2 hx hdef hsz hdone hout
    obtain ⟨v, hv, kv⟩ := hdone 8 _ (by omega) rfl
    have qv := kv _ rfl
    rw [hT] at hv
    obtain ⟨pv, rfl, lv, iv⟩ := hv
    obtain ⟨u, hu, ku⟩ := hdone 7 _ (by omega) rfl
    have qu := ku _ rfl
    rw [hT] at hu
    obtain ⟨pu, rfl, lu, iu⟩ := hu
    clear hdone kv ku hT
    have hA := arr_range a.tmps 74 hsz
    change a.tmps = #[a.tmps[0]?.getD undef, a.tmps[1]?.getD undef, a.tmps[2]?.getD undef, a.tmps[3]?.getD undef, a.tmps[4]?.getD undef, a.tmps[5]?.getD undef, a.tmps[6]?.getD undef, a.tmps[7]?.getD undef, a.tmps[8]?.getD undef, a.tmps[9]?.getD undef, a.tmps[10]?.getD undef, a.tmps[11]?.getD undef, a.tmps[12]?.getD undef, a.tmps[13]?.getD undef, a.tmps[14]?.getD undef, a.tmps[15]?.getD undef, a.tmps[16]?.getD undef, a.tmps[17]?.getD undef, a.tmps[18]?.getD undef, a.tmps[19]?.getD undef, a.tmps[20]?.getD undef, a.tmps[21]?.getD undef, a.tmps[22]?.getD undef, a.tmps[23]?.getD undef, a.tmps[24]?.getD undef, a.tmps[25]?.getD undef, a.tmps[26]?.getD undef, a.tmps[27]?.getD undef, a.tmps[28]?.getD undef, a.tmps[29]?.getD undef, a.tmps[30]?.getD undef, a.tmps[31]?.getD undef, a.tmps[32]?.getD undef, a.tmps[33]?.getD undef, a.tmps[34]?.getD undef, a.tmps[35]?.getD undef, a.tmps[36]?.getD undef, a.tmps[37]?.getD undef, a.tmps[38]?.getD undef, a.tmps[39]?.getD undef, a.tmps[40]?.getD undef, a.tmps[41]?.getD undef, a.tmps[42]?.getD undef, a.tmps[43]?.getD undef, a.tmps[44]?.getD undef, a.tmps[45]?.getD undef, a.tmps[46]?.getD undef, a.tmps[47]?.getD undef, a.tmps[48]?.getD undef, a.tmps[49]?.getD undef, a.tmps[50]?.getD undef, a.tmps[51]?.getD undef, a.tmps[52]?.getD undef, a.tmps[53]?.getD undef, a.tmps[54]?.getD undef, a.tmps[55]?.getD undef, a.tmps[56]?.getD undef, a.tmps[57]?.getD undef, a.tmps[58]?.getD undef, a.tmps[59]?.getD undef, a.tmps[60]?.getD undef, a.tmps[61]?.getD undef, a.tmps[62]?.getD undef, a.tmps[63]?.getD undef, a.tmps[64]?.getD undef, a.tmps[65]?.getD undef, a.tmps[66]?.getD undef, a.tmps[67]?.getD undef, a.tmps[68]?.getD undef, a.tmps[69]?.getD undef, a.tmps[70]?.getD undef, a.tmps[71]?.getD undef, a.tmps[72]?.getD undef, a.tmps[73]?.getD undef] at hA
    have e0 := hout 0 (fun i o _ h => outB_spec (by kernel_rfl) i o h)
    have e1 := hout 1 (fun i o _ h => outB_spec (by kernel_rfl) i o h)
    have e2 := hout 2 (fun i o _ h => outB_spec (by kernel_rfl) i o h)
    have e3 := hout 3 (fun i o _ h => outB_spec (by kernel_rfl) i o h)
    have e4 := hout 4 (fun i o _ h => outB_spec (by kernel_rfl) i o h)
    have e5 := hout 5 (fun i o _ h => outB_spec (by kernel_rfl) i o h)
    have e6 := hout 6 (fun i o _ h => outB_spec (by kernel_rfl) i o h)
    have e7 := hout 7 (fun i o _ h => outB_spec (by kernel_rfl) i o h)
    have e8 := hout 8 (fun i o _ h => outB_spec (by kernel_rfl) i o h)
    have e9 := hout 9 (fun i o _ h => outB_spec (by kernel_rfl) i o h)
    have e10 := hout 10 (fun i o _ h => outB_spec (by kernel_rfl) i o h)
    have e13 := hout 13 (fun i o _ h => outB_spec (by kernel_rfl) i o h)
    have e14 := hout 14 (fun i o _ h => outB_spec (by kernel_rfl) i o h)
    have e15 := hout 15 (fun i o _ h => outB_spec (by kernel_rfl) i o h)
    have e16 := hout 16 (fun i o _ h => outB_spec (by kernel_rfl) i o h)
    have e17 := hout 17 (fun i o _ h => outB_spec (by kernel_rfl) i o h)
    have e18 := hout 18 (fun i o _ h => outB_spec (by kernel_rfl) i o h)
    have e19 := hout 19 (fun i o _ h => outB_spec (by kernel_rfl) i o h)
    have e28 := hout 28 (fun i o _ h => outB_spec (by kernel_rfl) i o h)
    have e29 := hout 29 (fun i o _ h => outB_spec (by kernel_rfl) i o h)
    have e30 := hout 30 (fun i o _ h => outB_spec (by kernel_rfl) i o h)
    have e31 := hout 31 (fun i o _ h => outB_spec (by kernel_rfl) i o h)
    have e32 := hout 32 (fun i o _ h => outB_spec (by kernel_rfl) i o h)
    have e33 := hout 33 (fun i o _ h => outB_spec (by kernel_rfl) i o h)
    have e34 := hout 34 (fun i o _ h => outB_spec (by kernel_rfl) i o h)
    have e35 := hout 35 (fun i o _ h => outB_spec (by kernel_rfl) i o h)
    have e36 := hout 36 (fun i o _ h => outB_spec (by kernel_rfl) i o h)
    have e37 := hout 37 (fun i o _ h => outB_spec (by kernel_rfl) i o h)
    have e38 := hout 38 (fun i o _ h => outB_spec (by kernel_rfl) i o h)
    have e39 := hout 39 (fun i o _ h => outB_spec (by kernel_rfl) i o h)
    have e40 := hout 40 (fun i o _ h => outB_spec (by kernel_rfl) i o h)
    have e41 := hout 41 (fun i o _ h => outB_spec (by kernel_rfl) i o h)
    have e42 := hout 42 (fun i o _ h => outB_spec (by kernel_rfl) i o h)
    have e43 := hout 43 (fun i o _ h => outB_spec (by kernel_rfl) i o h)
    have e44 := hout 44 (fun i o _ h => outB_spec (by kernel_rfl) i o h)
    have e45 := hout 45 (fun i o _ h => outB_spec (by kernel_rfl) i o h)
    have e46 := hout 46 (fun i o _ h => outB_spec (by kernel_rfl) i o h)
    have e47 := hout 47 (fun i o _ h => outB_spec (by kernel_rfl) i o h)
    have e48 := hout 48 (fun i o _ h => outB_spec (by kernel_rfl) i o h)
    have e49 := hout 49 (fun i o _ h => outB_spec (by kernel_rfl) i o h)
    have e50 := hout 50 (fun i o _ h => outB_spec (by kernel_rfl) i o h)
    have e51 := hout 51 (fun i o _ h => outB_spec (by kernel_rfl) i o h)
    have e52 := hout 52 (fun i o _ h => outB_spec (by kernel_rfl) i o h)
    have e53 := hout 53 (fun i o _ h => outB_spec (by kernel_rfl) i o h)
    have e54 := hout 54 (fun i o _ h => outB_spec (by kernel_rfl) i o h)
    have e55 := hout 55 (fun i o _ h => outB_spec (by kernel_rfl) i o h)
    have e56 := hout 56 (fun i o _ h => outB_spec (by kernel_rfl) i o h)
    have e57 := hout 57 (fun i o _ h => outB_spec (by kernel_rfl) i o h)
    have e58 := hout 58 (fun i o _ h => outB_spec (by kernel_rfl) i o h)
    have e59 := hout 59 (fun i o _ h => outB_spec (by kernel_rfl) i o h)
    have e60 := hout 60 (fun i o _ h => outB_spec (by kernel_rfl) i o h)
    have e61 := hout 61 (fun i o _ h => outB_spec (by kernel_rfl) i o h)
    have e62 := hout 62 (fun i o _ h => outB_spec (by kernel_rfl) i o h)
    have e63 := hout 63 (fun i o _ h => outB_spec (by kernel_rfl) i o h)
    have e64 := hout 64 (fun i o _ h => outB_spec (by kernel_rfl) i o h)
    have e65 := hout 65 (fun i o _ h => outB_spec (by kernel_rfl) i o h)
    have e66 := hout 66 (fun i o _ h => outB_spec (by kernel_rfl) i o h)
    have e67 := hout 67 (fun i o _ h => outB_spec (by kernel_rfl) i o h)
    have e68 := hout 68 (fun i o _ h => outB_spec (by kernel_rfl) i o h)
    have e69 := hout 69 (fun i o _ h => outB_spec (by kernel_rfl) i o h)
    have e70 := hout 70 (fun i o _ h => outB_spec (by kernel_rfl) i o h)
    have e71 := hout 71 (fun i o _ h => outB_spec (by kernel_rfl) i o h)
    have e72 := hout 72 (fun i o _ h => outB_spec (by kernel_rfl) i o h)
    have e73 := hout 73 (fun i o _ h => outB_spec (by kernel_rfl) i o h)
    simp only [Array.getD_eq_getD_getElem?, List.getElem?_toArray, List.getElem?_cons_zero, List.getElem?_cons_succ, Option.getD_some] at e0 e1 e2 e3 e4 e5 e6 e7 e8 e9 e10 e13 e14 e15 e16 e17 e18 e19 e28 e29 e30 e31 e32 e33 e34 e35 e36 e37 e38 e39 e40 e41 e42 e43 e44 e45 e46 e47 e48 e49 e50 e51 e52 e53 e54 e55 e56 e57 e58 e59 e60 e61 e62 e63 e64 e65 e66 e67 e68 e69 e70 e71 e72 e73
    rw [e0, e1, e2, e3, e4, e5, e6, e7, e8, e9, e10, e13, e14, e15, e16, e17, e18, e19, e28, e29, e30, e31, e32, e33, e34, e35, e36, e37, e38, e39, e40, e41, e42, e43, e44, e45, e46, e47, e48, e49, e50, e51, e52, e53, e54, e55, e56, e57, e58, e59, e60, e61, e62, e63, e64, e65, e66, e67, e68, e69, e70, e71, e72, e73] at hA
    clear e0 e1 e2 e3 e4 e5 e6 e7 e8 e9 e10 e13 e14 e15 e16 e17 e18 e19 e28 e29 e30 e31 e32 e33 e34 e35 e36 e37 e38 e39 e40 e41 e42 e43 e44 e45 e46 e47 e48 e49 e50 e51 e52 e53 e54 e55 e56 e57 e58 e59 e60 e61 e62 e63 e64 e65 e66 e67 e68 e69 e70 e71 e72 e73 hout
    have hds2 : a.defers = [] := hdef
    have ea : a = ⟨a.tmps, a.defers⟩ := rfl
    have s11 : a.tmps[11]?.getD undef = pv.V := by simpa [Array.getD_eq_getD_getElem?] using qv
    have s27 : a.tmps[27]?.getD undef = pu.V := by simpa [Array.getD_eq_getD_getElem?] using qu
    rw [hA, hds2, s11, s27] at ea
    clear hA hds2 s11 qv s27 qu hdef
    generalize a.tmps[20]?.getD undef = y20 at ea
    generalize a.tmps[21]?.getD undef = y21 at ea
    generalize a.tmps[22]?.getD undef = y22 at ea
    generalize a.tmps[23]?.getD undef = y23 at ea
    generalize a.tmps[24]?.getD undef = y24 at ea
    generalize a.tmps[25]?.getD undef = y25 at ea
    generalize a.tmps[26]?.getD undef = y26 at ea
    generalize a.tmps[12]?.getD undef = y12 at ea
    clear hsz
    subst ea
    have bx : Below wr.heap.size wr w2 := Below.trans (Below.refl _ _).drew hx
    unfold wpOp
    simp only [List.getElem?_toArray, List.getElem?_cons_zero, List.getElem?_cons_succ]
    rw [if_pos (by rfl)]
    left
    go_simp
    have hr3 := Lib.hid (hr1.out.ext (show Ex wr w2 from bx))
    have bw3 := bw.trans (bx.mono bz)
    have bz3 := bw3.size
    clear hr1 bw bz bx hx RA gl1
    have RA := Lib.hid hr3.out.range
    have gl1 := hr3.out.lt
    obtain ⟨v1, hv1⟩ : ∃ v, v = pv.V := ⟨_, rfl⟩
    obtain ⟨v2, hv2⟩ : ∃ v, v = pu.V := ⟨_, rfl⟩
    have HV1 := Lib.hid hv1
    have HV2 := Lib.hid hv2
    rw [← hv1, ← hv2]
    have hp1l := lv
    have hp1i := iv
    have hp2l := lu
    have hp2i := iu
    clear hv1 hv2 lv iv lu iu
    go_wp2_with fail
    rw [HV1.out, HV2.out]
    generalize w2 = wr at *
    obtain ⟨T, hT⟩ : ∃ T : List As, T = [.pt Z1, .is (.int .i64 m1), .is (.int .i64 m1), .is (.bool false), .is (.bool false), .pt Z2, .is (.int .i64 m2), .is (.int .i64 m2), .is (.bool false), .is (.bool false), .is (.bool false), .pt Z1, .is (.string (strL Z1)), .pt Z2, .is (.int .i64 m1), .pt Z1, .is (.string (strL Z1)), .is (.bool false)] := ⟨_, rfl⟩
    refine wp_region_flow 18 (tabPhi T) (by kernel_rfl) rfl (by kernel_rfl) (by kernel_rfl) (by kernel_rfl) (tabPhi_stable T) (fitB_spec (by kernel_rfl)) ?_ ?_
    · intro i o hi ho
      have hi' : i = 0 ∨ i = 1 ∨ i = 2 ∨ i = 3 ∨ i = 4 ∨ i = 5 ∨ i = 6 ∨ i = 7 ∨ i = 8 ∨ i = 9 ∨ i = 10 ∨ i = 11 ∨ i = 12 ∨ i = 13 ∨ i = 14 ∨ i = 15 ∨ i = 16 ∨ i = 17 := by omega
      rcases hi' with rfl | rfl | rfl | rfl | rfl | rfl | rfl | rfl | rfl | rfl | rfl | rfl | rfl | rfl | rfl | rfl | rfl | rfl
      all_goals (simp only [List.getElem?_toArray, List.getElem?_cons_zero, List.getElem?_cons_succ, Option.some.injEq] at ho; subst ho; intro a w2 hx hsz hdep hout)
      · rw [if_pos (by rfl)]
        intro K hK
        have f := hout 11 (outB_spec (by kernel_rfl))
        exact wp_mv _ rfl (hK _ _ (Ex.refl _) (by rw [hT]; exact ⟨pv, f, hp1l, hp1i.ext (Ex.trans (show Ex wr wr.drew from (Below.refl _ _).drew) hx)⟩))
      · rw [if_pos (by rfl)]
        intro K hK
        obtain ⟨v, hv, kv⟩ := hdep ⟨0, .data⟩ (by simp) rfl _ rfl
        have qv := kv _ rfl
        rw [hT] at hv
        obtain ⟨pv, rfl, lv, iv⟩ := hv
        have q : a.tmps[28]?.getD undef = .slice pv.ad m1 pv.cap := by rw [← Array.getD_eq_getD_getElem?, qv]; unfold Pt.V; rw [lv, HZ1.out]
        clear hsz hdep hout qv kv lv
        go_simp
        exact hK _ _ (Ex.refl _) (by rw [hT]; rfl)
      · rw [if_pos (by rfl)]
        intro K hK
        have f := hout 9 (outB_spec (by kernel_rfl))
        exact wp_mv _ rfl (hK _ _ (Ex.refl _) (by rw [hT]; exact f))
      · rw [if_pos (by rfl)]
        intro K hK
        obtain ⟨v, hv, kv⟩ := hdep ⟨1, .data⟩ (by simp) rfl _ rfl
        have qv := kv _ rfl
        rw [hT] at hv
        obtain rfl : v = .int .i64 m1 := hv
        obtain ⟨u, hu, ku⟩ := hdep ⟨2, .data⟩ (by simp) rfl _ rfl
        have qu := ku _ rfl
        rw [hT] at hu
        obtain rfl : u = .int .i64 m1 := hu
        clear hsz hdep hout kv ku
        go_simp
        exact hK _ _ (Ex.refl _) (by rw [hT]; rfl)
      · rw [if_pos (by rfl)]
        intro K hK
        obtain ⟨v, hv, kv⟩ := hdep ⟨3, .data⟩ (by simp) rfl _ rfl
        have qv := kv _ rfl
        rw [hT] at hv
        obtain rfl : v = .bool false := hv
        exact wp_mv _ rfl (hK _ _ (Ex.refl _) (by rw [hT]; exact qv))
      · obtain ⟨vg, hvg, kg⟩ := hdep ⟨4, .guard⟩ (by simp) rfl _ rfl
        rw [hT] at hvg
        obtain rfl : vg = .bool false := hvg
        rw [if_pos (wanted_of rfl rfl rfl (kg _ rfl))]
        intro K hK
        have f := hout 12 (outB_spec (by kernel_rfl))
        exact wp_mv _ rfl (hK _ _ (Ex.refl _) (by rw [hT]; exact ⟨pu, f, hp2l, hp2i.ext (Ex.trans (show Ex wr wr.drew from (Below.refl _ _).drew) hx)⟩))
      · obtain ⟨vg, hvg, kg⟩ := hdep ⟨4, .guard⟩ (by simp) rfl _ rfl
        rw [hT] at hvg
        obtain rfl : vg = .bool false := hvg
        rw [if_pos (wanted_of rfl rfl rfl (kg _ rfl))]
        intro K hK
        obtain ⟨v, hv, kv⟩ := hdep ⟨5, .data⟩ (by simp) rfl _ rfl
        have qv := kv _ rfl
        rw [hT] at hv
        obtain ⟨pv, rfl, lv, iv⟩ := hv
        have q : a.tmps[33]?.getD undef = .slice pv.ad m2 pv.cap := by rw [← Array.getD_eq_getD_getElem?, qv]; unfold Pt.V; rw [lv, HZ2.out]
        clear hsz hdep hout qv kv lv kg
        go_simp
        exact hK _ _ (Ex.refl _) (by rw [hT]; rfl)
      · obtain ⟨vg, hvg, kg⟩ := hdep ⟨4, .guard⟩ (by simp) rfl _ rfl
        rw [hT] at hvg
        obtain rfl : vg = .bool false := hvg
        rw [if_pos (wanted_of rfl rfl rfl (kg _ rfl))]
        intro K hK
        have f := hout 10 (outB_spec (by kernel_rfl))
        exact wp_mv _ rfl (hK _ _ (Ex.refl _) (by rw [hT]; exact f))
      · obtain ⟨vg, hvg, kg⟩ := hdep ⟨4, .guard⟩ (by simp) rfl _ rfl
        rw [hT] at hvg
        obtain rfl : vg = .bool false := hvg
        rw [if_pos (wanted_of rfl rfl rfl (kg _ rfl))]
        intro K hK
        obtain ⟨v, hv, kv⟩ := hdep ⟨6, .data⟩ (by simp) rfl _ rfl
        have qv := kv _ rfl
        rw [hT] at hv
        obtain rfl : v = .int .i64 m2 := hv
        obtain ⟨u, hu, ku⟩ := hdep ⟨7, .data⟩ (by simp) rfl _ rfl
        have qu := ku _ rfl
        rw [hT] at hu
        obtain rfl : u = .int .i64 m2 := hu
        clear hsz hdep hout kg kv ku
        go_simp
        exact hK _ _ (Ex.refl _) (by rw [hT]; rfl)
      · rw [if_pos (by rfl)]
        intro K hK
        obtain ⟨v, hv, kv⟩ := hdep ⟨4, .data⟩ (by simp) rfl _ rfl
        have qv := kv _ rfl
        rw [hT] at hv
        obtain rfl : v = .bool false := hv
        obtain ⟨u, hu, ku⟩ := hdep ⟨8, .data⟩ (by simp) rfl _ rfl
        have qu := ku _ rfl
        rw [hT] at hu
        obtain rfl : u = .bool false := hu
        clear hsz hdep hout
        go_simp
        exact hK _ _ (Ex.refl _) (by rw [hT]; rfl)
      · rw [if_pos (by rfl)]
        intro K hK
        obtain ⟨v, hv, kv⟩ := hdep ⟨9, .data⟩ (by simp) rfl _ rfl
        have qv := kv _ rfl
        rw [hT] at hv
        obtain rfl : v = .bool false := hv
        exact wp_mv _ rfl (hK _ _ (Ex.refl _) (by rw [hT]; exact qv))
      · obtain ⟨vg, hvg, kg⟩ := hdep ⟨10, .guard⟩ (by simp) rfl _ rfl
        rw [hT] at hvg
        obtain rfl : vg = .bool false := hvg
        rw [if_pos (wanted_of rfl rfl rfl (kg _ rfl))]
        intro K hK
        have f := hout 11 (outB_spec (by kernel_rfl))
        exact wp_mv _ rfl (hK _ _ (Ex.refl _) (by rw [hT]; exact ⟨pv, f, hp1l, hp1i.ext (Ex.trans (show Ex wr wr.drew from (Below.refl _ _).drew) hx)⟩))
      · obtain ⟨vg, hvg, kg⟩ := hdep ⟨10, .guard⟩ (by simp) rfl _ rfl
        rw [hT] at hvg
        obtain rfl : vg = .bool false := hvg
        rw [if_pos (wanted_of rfl rfl rfl (kg _ rfl))]
        intro K hK
        obtain ⟨v, hv, kv⟩ := hdep ⟨11, .data⟩ (by simp) rfl _ rfl
        have qv := kv _ rfl
        rw [hT] at hv
        obtain ⟨pv, rfl, lv, iv⟩ := hv
        have cv := pt_conv pv w2 iv
        rw [lv] at cv
        have q : a.tmps[39]?.getD undef = .slice pv.ad (Z1).length pv.cap := by rw [← Array.getD_eq_getD_getElem?, qv]; unfold Pt.V; rw [lv]
        generalize (Z1).length = nn at cv q
        clear hsz hdep hout qv kv lv kg
        go_simp
        exact hK _ _ (Ex.refl _) (by rw [hT]; rfl)
      · obtain ⟨vg, hvg, kg⟩ := hdep ⟨10, .guard⟩ (by simp) rfl _ rfl
        rw [hT] at hvg
        obtain rfl : vg = .bool false := hvg
        rw [if_pos (wanted_of rfl rfl rfl (kg _ rfl))]
        intro K hK
        have f := hout 12 (outB_spec (by kernel_rfl))
        exact wp_mv _ rfl (hK _ _ (Ex.refl _) (by rw [hT]; exact ⟨pu, f, hp2l, hp2i.ext (Ex.trans (show Ex wr wr.drew from (Below.refl _ _).drew) hx)⟩))
      · obtain ⟨vg, hvg, kg⟩ := hdep ⟨10, .guard⟩ (by simp) rfl _ rfl
        rw [hT] at hvg
        obtain rfl : vg = .bool false := hvg
        rw [if_pos (wanted_of rfl rfl rfl (kg _ rfl))]
        intro K hK
        have f := hout 9 (outB_spec (by kernel_rfl))
        exact wp_mv _ rfl (hK _ _ (Ex.refl _) (by rw [hT]; exact f))
      · obtain ⟨vg, hvg, kg⟩ := hdep ⟨10, .guard⟩ (by simp) rfl _ rfl
        rw [hT] at hvg
        obtain rfl : vg = .bool false := hvg
        rw [if_pos (wanted_of rfl rfl rfl (kg _ rfl))]
        intro K hK
        obtain ⟨v, hv, kv⟩ := hdep ⟨13, .data⟩ (by simp) rfl _ rfl
        have qv := kv _ rfl
        rw [hT] at hv
        obtain ⟨pv, rfl, lv, iv⟩ := hv
        obtain ⟨u, hu, ku⟩ := hdep ⟨14, .data⟩ (by simp) rfl _ rfl
        have qu := ku _ rfl
        rw [hT] at hu
        obtain rfl : u = .int .i64 m1 := hu
        have q1 : a.tmps[41]?.getD undef = .slice pv.ad m2 pv.cap := by rw [← Array.getD_eq_getD_getElem?, qv]; unfold Pt.V; rw [lv, HZ2.out]
        have q2 : a.tmps[42]?.getD undef = .int .i64 m1 := by rw [← Array.getD_eq_getD_getElem?]; exact qu
        have hc1 : m1 ≤ pv.cap := by have := iv.cap; rw [lv, HZ2.out] at this; omega
        have PT := Lib.hid (pt_takeS pv m1 w2 iv (by rw [lv, HZ2.out]; omega))
        rw [lv, HTK.out] at PT
        clear hsz hdep hout qv kv qu ku lv kg
        go_simp
        exact hK _ _ (Ex.refl _) (by rw [hT]; exact ⟨_, (by unfold Pt.V; rw [HZ1.out]), rfl, PT.out⟩)
      · obtain ⟨vg, hvg, kg⟩ := hdep ⟨10, .guard⟩ (by simp) rfl _ rfl
        rw [hT] at hvg
        obtain rfl : vg = .bool false := hvg
        rw [if_pos (wanted_of rfl rfl rfl (kg _ rfl))]
        intro K hK
        obtain ⟨v, hv, kv⟩ := hdep ⟨15, .data⟩ (by simp) rfl _ rfl
        have qv := kv _ rfl
        rw [hT] at hv
        obtain ⟨pv, rfl, lv, iv⟩ := hv
        have cv := pt_conv pv w2 iv
        rw [lv] at cv
        have q : a.tmps[43]?.getD undef = .slice pv.ad (Z1).length pv.cap := by rw [← Array.getD_eq_getD_getElem?, qv]; unfold Pt.V; rw [lv]
        generalize (Z1).length = nn at cv q
        clear hsz hdep hout qv kv lv kg
        go_simp
        exact hK _ _ (Ex.refl _) (by rw [hT]; rfl)
      · obtain ⟨vg, hvg, kg⟩ := hdep ⟨10, .guard⟩ (by simp) rfl _ rfl
        rw [hT] at hvg
        obtain rfl : vg = .bool false := hvg
        rw [if_pos (wanted_of rfl rfl rfl (kg _ rfl))]
        intro K hK
        obtain ⟨v, hv, kv⟩ := hdep ⟨12, .data⟩ (by simp) rfl _ rfl
        have qv := kv _ rfl
        rw [hT] at hv
        obtain rfl : v = .string (strL Z1) := hv
        obtain ⟨u, hu, ku⟩ := hdep ⟨16, .data⟩ (by simp) rfl _ rfl
        have qu := ku _ rfl
        rw [hT] at hu
        obtain rfl : u = .string (strL Z1) := hu
        clear hsz hdep hout kg kv ku
        go_simp
        exact hK _ _ (Ex.refl _) (by rw [hT]; rfl)
    · intro a w2 hx hdef hsz hdone hout
      obtain ⟨x, hx, kx⟩ := hdone 10 _ (by omega) rfl
      have qx := kx _ rfl
      rw [hT] at hx
      obtain rfl : x = .bool false := hx
      obtain ⟨y, hy, ky⟩ := hdone 17 _ (by omega) rfl
      have qy := ky _ rfl
      rw [hT] at hy
      obtain rfl : y = .bool false := hy
      clear hdone kx ky hT
      have hA := arr_range a.tmps 74 hsz
      change a.tmps = #[a.tmps[0]?.getD undef, a.tmps[1]?.getD undef, a.tmps[2]?.getD undef, a.tmps[3]?.getD undef, a.tmps[4]?.getD undef, a.tmps[5]?.getD undef, a.tmps[6]?.getD undef, a.tmps[7]?.getD undef, a.tmps[8]?.getD undef, a.tmps[9]?.getD undef, a.tmps[10]?.getD undef, a.tmps[11]?.getD undef, a.tmps[12]?.getD undef, a.tmps[13]?.getD undef, a.tmps[14]?.getD undef, a.tmps[15]?.getD undef, a.tmps[16]?.getD undef, a.tmps[17]?.getD undef, a.tmps[18]?.getD undef, a.tmps[19]?.getD undef, a.tmps[20]?.getD undef, a.tmps[21]?.getD undef, a.tmps[22]?.getD undef, a.tmps[23]?.getD undef, a.tmps[24]?.getD undef, a.tmps[25]?.getD undef, a.tmps[26]?.getD undef, a.tmps[27]?.getD undef, a.tmps[28]?.getD undef, a.tmps[29]?.getD undef, a.tmps[30]?.getD undef, a.tmps[31]?.getD undef, a.tmps[32]?.getD undef, a.tmps[33]?.getD undef, a.tmps[34]?.getD undef, a.tmps[35]?.getD undef, a.tmps[36]?.getD undef, a.tmps[37]?.getD undef, a.tmps[38]?.getD undef, a.tmps[39]?.getD undef, a.tmps[40]?.getD undef, a.tmps[41]?.getD undef, a.tmps[42]?.getD undef, a.tmps[43]?.getD undef, a.tmps[44]?.getD undef, a.tmps[45]?.getD undef, a.tmps[46]?.getD undef, a.tmps[47]?.getD undef, a.tmps[48]?.getD undef, a.tmps[49]?.getD undef, a.tmps[50]?.getD undef, a.tmps[51]?.getD undef, a.tmps[52]?.getD undef, a.tmps[53]?.getD undef, a.tmps[54]?.getD undef, a.tmps[55]?.getD undef, a.tmps[56]?.getD undef, a.tmps[57]?.getD undef, a.tmps[58]?.getD undef, a.tmps[59]?.getD undef, a.tmps[60]?.getD undef, a.tmps[61]?.getD undef, a.tmps[62]?.getD undef, a.tmps[63]?.getD undef, a.tmps[64]?.getD undef, a.tmps[65]?.getD undef, a.tmps[66]?.getD undef, a.tmps[67]?.getD undef, a.tmps[68]?.getD undef, a.tmps[69]?.getD undef, a.tmps[70]?.getD undef, a.tmps[71]?.getD undef, a.tmps[72]?.getD undef, a.tmps[73]?.getD undef] at hA
      have e0 := hout 0 (fun i o _ h => outB_spec (by kernel_rfl) i o h)
      have e1 := hout 1 (fun i o _ h => outB_spec (by kernel_rfl) i o h)
      have e2 := hout 2 (fun i o _ h => outB_spec (by kernel_rfl) i o h)
      have e3 := hout 3 (fun i o _ h => outB_spec (by kernel_rfl) i o h)
      have e4 := hout 4 (fun i o _ h => outB_spec (by kernel_rfl) i o h)
      have e5 := hout 5 (fun i o _ h => outB_spec (by kernel_rfl) i o h)
      have e6 := hout 6 (fun i o _ h => outB_spec (by kernel_rfl) i o h)
      have e7 := hout 7 (fun i o _ h => outB_spec (by kernel_rfl) i o h)
      have e8 := hout 8 (fun i o _ h => outB_spec (by kernel_rfl) i o h)
      have e9 := hout 9 (fun i o _ h => outB_spec (by kernel_rfl) i o h)
      have e10 := hout 10 (fun i o _ h => outB_spec (by kernel_rfl) i o h)
      have e11 := hout 11 (fun i o _ h => outB_spec (by kernel_rfl) i o h)
      have e12 := hout 12 (fun i o _ h => outB_spec (by kernel_rfl) i o h)
      have e13 := hout 13 (fun i o _ h => outB_spec (by kernel_rfl) i o h)
      have e14 := hout 14 (fun i o _ h => outB_spec (by kernel_rfl) i o h)
      have e15 := hout 15 (fun i o _ h => outB_spec (by kernel_rfl) i o h)
      have e16 := hout 16 (fun i o _ h => outB_spec (by kernel_rfl) i o h)
      have e17 := hout 17 (fun i o _ h => outB_spec (by kernel_rfl) i o h)
      have e18 := hout 18 (fun i o _ h => outB_spec (by kernel_rfl) i o h)
      have e19 := hout 19 (fun i o _ h => outB_spec (by kernel_rfl) i o h)
      have e20 := hout 20 (fun i o _ h => outB_spec (by kernel_rfl) i o h)
      have e21 := hout 21 (fun i o _ h => outB_spec (by kernel_rfl) i o h)
      have e22 := hout 22 (fun i o _ h => outB_spec (by kernel_rfl) i o h)
      have e23 := hout 23 (fun i o _ h => outB_spec (by kernel_rfl) i o h)
      have e24 := hout 24 (fun i o _ h => outB_spec (by kernel_rfl) i o h)
      have e25 := hout 25 (fun i o _ h => outB_spec (by kernel_rfl) i o h)
      have e26 := hout 26 (fun i o _ h => outB_spec (by kernel_rfl) i o h)
      have e27 := hout 27 (fun i o _ h => outB_spec (by kernel_rfl) i o h)
      have e47 := hout 47 (fun i o _ h => outB_spec (by kernel_rfl) i o h)
      have e48 := hout 48 (fun i o _ h => outB_spec (by kernel_rfl) i o h)
      have e49 := hout 49 (fun i o _ h => outB_spec (by kernel_rfl) i o h)
      have e50 := hout 50 (fun i o _ h => outB_spec (by kernel_rfl) i o h)
      have e51 := hout 51 (fun i o _ h => outB_spec (by kernel_rfl) i o h)
      have e52 := hout 52 (fun i o _ h => outB_spec (by kernel_rfl) i o h)
      have e53 := hout 53 (fun i o _ h => outB_spec (by kernel_rfl) i o h)
      have e54 := hout 54 (fun i o _ h => outB_spec (by kernel_rfl) i o h)
      have e55 := hout 55 (fun i o _ h => outB_spec (by kernel_rfl) i o h)
      have e56 := hout 56 (fun i o _ h => outB_spec (by kernel_rfl) i o h)
      have e57 := hout 57 (fun i o _ h => outB_spec (by kernel_rfl) i o h)
      have e58 := hout 58 (fun i o _ h => outB_spec (by kernel_rfl) i o h)
      have e59 := hout 59 (fun i o _ h => outB_spec (by kernel_rfl) i o h)
      have e60 := hout 60 (fun i o _ h => outB_spec (by kernel_rfl) i o h)
      have e61 := hout 61 (fun i o _ h => outB_spec (by kernel_rfl) i o h)
      have e62 := hout 62 (fun i o _ h => outB_spec (by kernel_rfl) i o h)
      have e63 := hout 63 (fun i o _ h => outB_spec (by kernel_rfl) i o h)
      have e64 := hout 64 (fun i o _ h => outB_spec (by kernel_rfl) i o h)
      have e65 := hout 65 (fun i o _ h => outB_spec (by kernel_rfl) i o h)
      have e66 := hout 66 (fun i o _ h => outB_spec (by kernel_rfl) i o h)
      have e67 := hout 67 (fun i o _ h => outB_spec (by kernel_rfl) i o h)
      have e68 := hout 68 (fun i o _ h => outB_spec (by kernel_rfl) i o h)
      have e69 := hout 69 (fun i o _ h => outB_spec (by kernel_rfl) i o h)
      have e70 := hout 70 (fun i o _ h => outB_spec (by kernel_rfl) i o h)
      have e71 := hout 71 (fun i o _ h => outB_spec (by kernel_rfl) i o h)
      have e72 := hout 72 (fun i o _ h => outB_spec (by kernel_rfl) i o h)
      have e73 := hout 73 (fun i o _ h => outB_spec (by kernel_rfl) i o h)
      simp only [Array.getD_eq_getD_getElem?, List.getElem?_toArray, List.getElem?_cons_zero, List.getElem?_cons_succ, Option.getD_some] at e0 e1 e2 e3 e4 e5 e6 e7 e8 e9 e10 e11 e12 e13 e14 e15 e16 e17 e18 e19 e20 e21 e22 e23 e24 e25 e26 e27 e47 e48 e49 e50 e51 e52 e53 e54 e55 e56 e57 e58 e59 e60 e61 e62 e63 e64 e65 e66 e67 e68 e69 e70 e71 e72 e73
      rw [e0, e1, e2, e3, e4, e5, e6, e7, e8, e9, e10, e11, e12, e13, e14, e15, e16, e17, e18, e19, e20, e21, e22, e23, e24, e25, e26, e27, e47, e48, e49, e50, e51, e52, e53, e54, e55, e56, e57, e58, e59, e60, e61, e62, e63, e64, e65, e66, e67, e68, e69, e70, e71, e72, e73] at hA
      clear e0 e1 e2 e3 e4 e5 e6 e7 e8 e9 e10 e11 e12 e13 e14 e15 e16 e17 e18 e19 e20 e21 e22 e23 e24 e25 e26 e27 e47 e48 e49 e50 e51 e52 e53 e54 e55 e56 e57 e58 e59 e60 e61 e62 e63 e64 e65 e66 e67 e68 e69 e70 e71 e72 e73 hout
      have hds2 : a.defers = [] := hdef
      have ea : a = ⟨a.tmps, a.defers⟩ := rfl
      have s38 : a.tmps[38]?.getD undef = .bool false := by simpa [Array.getD_eq_getD_getElem?] using qx
      have s45 : a.tmps[45]?.getD undef = .bool false := by simpa [Array.getD_eq_getD_getElem?] using qy
      rw [hA, hds2, s38, s45] at ea
      clear hA hds2 s38 qx s45 qy hdef
      generalize a.tmps[28]?.getD undef = y28 at ea
      generalize a.tmps[29]?.getD undef = y29 at ea
      generalize a.tmps[30]?.getD undef = y30 at ea
      generalize a.tmps[31]?.getD undef = y31 at ea
      generalize a.tmps[32]?.getD undef = y32 at ea
      generalize a.tmps[33]?.getD undef = y33 at ea
      generalize a.tmps[34]?.getD undef = y34 at ea
      generalize a.tmps[35]?.getD undef = y35 at ea
      generalize a.tmps[36]?.getD undef = y36 at ea
      generalize a.tmps[37]?.getD undef = y37 at ea
      generalize a.tmps[39]?.getD undef = y39 at ea
      generalize a.tmps[40]?.getD undef = y40 at ea
      generalize a.tmps[41]?.getD undef = y41 at ea
      generalize a.tmps[42]?.getD undef = y42 at ea
      generalize a.tmps[43]?.getD undef = y43 at ea
      generalize a.tmps[44]?.getD undef = y44 at ea
      generalize a.tmps[46]?.getD undef = y46 at ea
      clear hsz
      subst ea
      have bx : Below wr.heap.size wr w2 := Below.trans (Below.refl _ _).drew hx
      unfold wpOp
      simp only [List.getElem?_toArray, List.getElem?_cons_zero, List.getElem?_cons_succ]
      rw [if_pos (by rfl)]
      left
      rw [← HV1.out, ← HV2.out]
      go_simp
      have hr4 := Lib.hid (hr3.out.ext (show Ex wr w2 from bx))
      have hp2j := Lib.hid (hp2i.ext (show Ex wr w2 from bx))
      have bw4 := bw3.trans (bx.mono bz3)
      have HL2 := Lib.hid hp2l
      clear hr3 hp1i hp1l hp2i hp2l bw3 bz3 bx hx RA gl1
      go_wp2_with fail
      go_loopw [13] (fun i wr => ∃ j : Nat, 16 * j ≤ m2 ∧ i = .int .i64 j ∧ Hid (Bk wr w.heap.size 24 da.toArray) ∧ Hid (pu.In wr wr.heap.size) ∧ Below w.heap.size w wr) (fun i _ => 400 - (intOf i).toNat)
      case atStart => exact ⟨0, by omega, rfl, hr4, hp2j, bw4⟩
      case round =>
        clear hr4 hp2j bw4
        obtain ⟨j, hj, rfl, hr5, hp5, bw5⟩ := hrel
        by_cases hlt : 16 * j + 16 ≤ m2
        · have RA := Lib.hid hr5.out.range
          have gl1 := hr5.out.lt
          have bz5 := bw5.size
          obtain ⟨Nn, hNn⟩ : ∃ x, x = numL n := ⟨_, rfl⟩
          obtain ⟨Nj, hNj⟩ : ∃ x, x = numL (j : Int) := ⟨_, rfl⟩
          have HNn := Lib.hid (show Nn.length = 8 by rw [hNn]; rfl)
          have HNj := Lib.hid (show Nj.length = 8 by rw [hNj]; rfl)
          have NB := Lib.hid (show ∀ W : World, Calls Try.prog 32 #[.int .u64 n] W (PtFull Nn W) from fun W => by rw [hNn]; exact numberF n hn0 hn1 W)
          have NJ := Lib.hid (show ∀ W : World, Calls Try.prog 32 #[.int .u64 j] W (PtPost Nj W) from fun W => by rw [hNj]; exact numberP (j : Int) (by omega) (by omega) W)
          obtain ⟨Kj, hKj⟩ : ∃ x, x = sumL (A ++ (Nn ++ Nj)) := ⟨_, rfl⟩
          have HKl := Lib.hid (show Kj.length = 16 by rw [hKj]; rfl)
          have HBK := Lib.hid (show (Z2.drop (16 * j)).take 16 = Kj by rw [hKj, hNn, hNj]; exact HBL.out j hlt)
          have KB := Lib.hid (show ∀ (W : World) (p : Pt), p.l = Nn ++ Nj → p.In W W.heap.size → Calls Try.prog 22 #[digV A, p.V] W fun e w' => e = .returned (digV Kj) ∧ Below W.heap.size W w' from fun W p hp hi => by
            have h := keyed_any A hAl p W hi (by rw [hp, List.length_append, HNn.out, HNj.out]; omega)
            rw [hp, ← hKj] at h; exact h)
          have SJ : Hid (IntKind.u64.wrap (j : Int) = j) := Lib.hid (by unfold IntKind.wrap; simp [IntKind.bits, IntKind.signed]; omega)
          obtain ⟨ds, hds⟩ : ∃ ds, ds = Lib.byteCells Kj := ⟨_, rfl⟩
          have HDS := Lib.hid hds
          have hval : digV Kj = .agg ds.toArray := by rw [hds]; rfl
          have hdl : ds.length = 16 := by rw [hds]; simp [Lib.byteCells, HKl.out]
          have HO := Lib.hid (show ds.toArray.all (·.oneCell') = true by rw [hds]; exact bytes_one _)
          have hi3 := Lib.hid (show (Try.prog.info? 24).map (·.size) = some ds.toArray.size by rw [sm_dsize]; simp [hdl])
          have HV := Lib.hid hval
          have HDL := Lib.hid hdl
          clear hNn hNj hKj hds hval hdl
          go_wp2_with fail
          obtain ⟨T, hT⟩ : ∃ T : List As, T = [.is (digV A), .is (.int .u64 n), .full Nn, .is (.int .i64 j), .is (.int .u64 j), .pt Nj, .pt (Nn ++ Nj), .is (digV Kj), .blk wr.heap.size 24 zero16] := ⟨_, rfl⟩
          refine wp_region_flow 9 (tabPhi T) (by kernel_rfl) rfl (by kernel_rfl) (by kernel_rfl) (by kernel_rfl) (tabPhi_stable T) (fitB_spec (by kernel_rfl)) ?_ ?_
          · intro i o hi ho
            have hi' : i = 0 ∨ i = 1 ∨ i = 2 ∨ i = 3 ∨ i = 4 ∨ i = 5 ∨ i = 6 ∨ i = 7 ∨ i = 8 := by omega
            rcases hi' with rfl | rfl | rfl | rfl | rfl | rfl | rfl | rfl | rfl
            all_goals (simp only [List.getElem?_toArray, List.getElem?_cons_zero, List.getElem?_cons_succ, Option.some.injEq] at ho; subst ho; intro a w2 hx hsz hdep hout)
            · rw [if_pos (by rfl)]
              intro K hK
              have f := hout 4 (outB_spec (by kernel_rfl))
              exact wp_load_mid 24 _ rfl w.heap.size 0 f da dd (fun x v hv => (hx.cell (p := ⟨w.heap.size, 0 + x, none⟩) (by show w.heap.size < wr.heap.size; omega)).trans (RA.out x v hv)) HD.out.1 HD.out.2 hi5.out (hK _ _ (Ex.refl _) (by rw [hT]; exact HVA.out.symm))
            · rw [if_pos (by rfl)]
              intro K hK
              have f := hout 1 (outB_spec (by kernel_rfl))
              exact wp_mv _ rfl (hK _ _ (Ex.refl _) (by rw [hT]; exact f))
            · rw [if_pos (by rfl)]
              intro K hK
              obtain ⟨v, hv, kv⟩ := hdep ⟨1, .data⟩ (by simp) rfl _ rfl
              have qv := kv _ rfl
              rw [hT] at hv
              obtain rfl : v = .int .u64 n := hv
              go_simp
              refine (NB.out w2).mono ?_
              rintro e w3 ⟨p, rfl, hl, hc, hin, hex⟩
              exact hK _ _ hex (by rw [hT]; exact ⟨p, rfl, hl, hc, hin⟩)
            · rw [if_pos (by rfl)]
              intro K hK
              have f := hout 13 (outB_spec (by kernel_rfl))
              exact wp_mv _ rfl (hK _ _ (Ex.refl _) (by rw [hT]; exact f))
            · rw [if_pos (by rfl)]
              intro K hK
              obtain ⟨v, hv, kv⟩ := hdep ⟨3, .data⟩ (by simp) rfl _ rfl
              have qv := kv _ rfl
              rw [hT] at hv
              obtain rfl : v = .int .i64 j := hv
              clear hsz hdep hout kv
              go_simp
              exact hK _ _ (Ex.refl _) (by rw [hT]; show Value.int .u64 (IntKind.u64.wrap (j : Int)) = .int .u64 (j : Int); rw [SJ.out])
            · rw [if_pos (by rfl)]
              intro K hK
              obtain ⟨v, hv, kv⟩ := hdep ⟨4, .data⟩ (by simp) rfl _ rfl
              have qv := kv _ rfl
              rw [hT] at hv
              obtain rfl : v = .int .u64 j := hv
              go_simp
              refine (NJ.out w2).mono ?_
              rintro e w3 ⟨p, rfl, hl, hin, hex⟩
              exact hK _ _ hex (by rw [hT]; exact ⟨p, rfl, hl, hin⟩)
            · rw [if_pos (by rfl)]
              intro K hK
              obtain ⟨v, hv, kv⟩ := hdep ⟨2, .data⟩ (by simp) rfl _ rfl
              have qv := kv _ rfl
              rw [hT] at hv
              obtain ⟨pv, rfl, lv, cv, iv⟩ := hv
              obtain ⟨u, hu, ku⟩ := hdep ⟨5, .data⟩ (by simp) rfl _ rfl
              have qu := ku _ rfl
              rw [hT] at hu
              obtain ⟨pu, rfl, lu, iu⟩ := hu
              refine wp_app (.tmp 56) (.tmp 59) rfl pv pu ?_ ?_ iv iu (by rw [cv, lv, lu, HNn.out, HNj.out]; omega) (by rw [lv, lu, HNn.out, HNj.out]; omega) ?_
              · simpa [Act.eval, Array.getD_eq_getD_getElem?] using qv
              · simpa [Act.eval, Array.getD_eq_getD_getElem?] using qu
              · intro r w3 hr hin hex
                exact hK _ _ hex (by rw [hT]; exact ⟨r, rfl, by rw [hr, lv, lu], hin⟩)
            · rw [if_pos (by rfl)]
              intro K hK
              obtain ⟨v, hv, kv⟩ := hdep ⟨0, .data⟩ (by simp) rfl _ rfl
              have qv := kv _ rfl
              rw [hT] at hv
              obtain rfl : v = digV A := hv
              obtain ⟨u, hu, ku⟩ := hdep ⟨6, .data⟩ (by simp) rfl _ rfl
              have qu := ku _ rfl
              rw [hT] at hu
              obtain ⟨pu, rfl, lu, iu⟩ := hu
              go_simp
              refine (KB.out w2 pu lu iu).mono ?_
              rintro e w3 ⟨rfl, hex⟩
              exact hK _ _ hex (by rw [hT]; rfl)
            · rw [if_pos (by rfl)]
              intro K hK
              go_simp
              have hex : Ex w2 (w2.alloc (.cells zero16 24)) := (Below.refl _ _).alloc (Nat.le_refl _) _
              exact hK _ _ hex (by rw [hT]; exact ⟨w2.heap.size, rfl, hx.size, Bk.new rfl _ _⟩)
          · intro a w2 hx hdef hsz hdone hout
            obtain ⟨v, hv, kv⟩ := hdone 7 _ (by omega) rfl
            have qv := kv _ rfl
            rw [hT] at hv
            obtain rfl : v = digV Kj := hv
            obtain ⟨u, hu, ku⟩ := hdone 8 _ (by omega) rfl
            have qu := ku _ rfl
            rw [hT] at hu
            obtain ⟨g, rfl, hgb, hB⟩ := hu
            clear hdone kv ku hT
            have hA := arr_range a.tmps 74 hsz
            change a.tmps = #[a.tmps[0]?.getD undef, a.tmps[1]?.getD undef, a.tmps[2]?.getD undef, a.tmps[3]?.getD undef, a.tmps[4]?.getD undef, a.tmps[5]?.getD undef, a.tmps[6]?.getD undef, a.tmps[7]?.getD undef, a.tmps[8]?.getD undef, a.tmps[9]?.getD undef, a.tmps[10]?.getD undef, a.tmps[11]?.getD undef, a.tmps[12]?.getD undef, a.tmps[13]?.getD undef, a.tmps[14]?.getD undef, a.tmps[15]?.getD undef, a.tmps[16]?.getD undef, a.tmps[17]?.getD undef, a.tmps[18]?.getD undef, a.tmps[19]?.getD undef, a.tmps[20]?.getD undef, a.tmps[21]?.getD undef, a.tmps[22]?.getD undef, a.tmps[23]?.getD undef, a.tmps[24]?.getD undef, a.tmps[25]?.getD undef, a.tmps[26]?.getD undef, a.tmps[27]?.getD undef, a.tmps[28]?.getD undef, a.tmps[29]?.getD undef, a.tmps[30]?.getD undef, a.tmps[31]?.getD undef, a.tmps[32]?.getD undef, a.tmps[33]?.getD undef, a.tmps[34]?.getD undef, a.tmps[35]?.getD undef, a.tmps[36]?.getD undef, a.tmps[37]?.getD undef, a.tmps[38]?.getD undef, a.tmps[39]?.getD undef, a.tmps[40]?.getD undef, a.tmps[41]?.getD undef, a.tmps[42]?.getD undef, a.tmps[43]?.getD undef, a.tmps[44]?.getD undef, a.tmps[45]?.getD undef, a.tmps[46]?.getD undef, a.tmps[47]?.getD undef, a.tmps[48]?.getD undef, a.tmps[49]?.getD undef, a.tmps[50]?.getD undef, a.tmps[51]?.getD undef, a.tmps[52]?.getD undef, a.tmps[53]?.getD undef, a.tmps[54]?.getD undef, a.tmps[55]?.getD undef, a.tmps[56]?.getD undef, a.tmps[57]?.getD undef, a.tmps[58]?.getD undef, a.tmps[59]?.getD undef, a.tmps[60]?.getD undef, a.tmps[61]?.getD undef, a.tmps[62]?.getD undef, a.tmps[63]?.getD undef, a.tmps[64]?.getD undef, a.tmps[65]?.getD undef, a.tmps[66]?.getD undef, a.tmps[67]?.getD undef, a.tmps[68]?.getD undef, a.tmps[69]?.getD undef, a.tmps[70]?.getD undef, a.tmps[71]?.getD undef, a.tmps[72]?.getD undef, a.tmps[73]?.getD undef] at hA
            have e0 := hout 0 (fun i o _ h => outB_spec (by kernel_rfl) i o h)
            have e1 := hout 1 (fun i o _ h => outB_spec (by kernel_rfl) i o h)
            have e2 := hout 2 (fun i o _ h => outB_spec (by kernel_rfl) i o h)
            have e3 := hout 3 (fun i o _ h => outB_spec (by kernel_rfl) i o h)
            have e4 := hout 4 (fun i o _ h => outB_spec (by kernel_rfl) i o h)
            have e5 := hout 5 (fun i o _ h => outB_spec (by kernel_rfl) i o h)
            have e6 := hout 6 (fun i o _ h => outB_spec (by kernel_rfl) i o h)
            have e7 := hout 7 (fun i o _ h => outB_spec (by kernel_rfl) i o h)
            have e8 := hout 8 (fun i o _ h => outB_spec (by kernel_rfl) i o h)
            have e9 := hout 9 (fun i o _ h => outB_spec (by kernel_rfl) i o h)
            have e10 := hout 10 (fun i o _ h => outB_spec (by kernel_rfl) i o h)
            have e11 := hout 11 (fun i o _ h => outB_spec (by kernel_rfl) i o h)
            have e12 := hout 12 (fun i o _ h => outB_spec (by kernel_rfl) i o h)
            have e13 := hout 13 (fun i o _ h => outB_spec (by kernel_rfl) i o h)
            have e15 := hout 15 (fun i o _ h => outB_spec (by kernel_rfl) i o h)
            have e16 := hout 16 (fun i o _ h => outB_spec (by kernel_rfl) i o h)
            have e17 := hout 17 (fun i o _ h => outB_spec (by kernel_rfl) i o h)
            have e18 := hout 18 (fun i o _ h => outB_spec (by kernel_rfl) i o h)
            have e19 := hout 19 (fun i o _ h => outB_spec (by kernel_rfl) i o h)
            have e20 := hout 20 (fun i o _ h => outB_spec (by kernel_rfl) i o h)
            have e21 := hout 21 (fun i o _ h => outB_spec (by kernel_rfl) i o h)
            have e22 := hout 22 (fun i o _ h => outB_spec (by kernel_rfl) i o h)
            have e23 := hout 23 (fun i o _ h => outB_spec (by kernel_rfl) i o h)
            have e24 := hout 24 (fun i o _ h => outB_spec (by kernel_rfl) i o h)
            have e25 := hout 25 (fun i o _ h => outB_spec (by kernel_rfl) i o h)
            have e26 := hout 26 (fun i o _ h => outB_spec (by kernel_rfl) i o h)
            have e27 := hout 27 (fun i o _ h => outB_spec (by kernel_rfl) i o h)
            have e28 := hout 28 (fun i o _ h => outB_spec (by kernel_rfl) i o h)
            have e29 := hout 29 (fun i o _ h => outB_spec (by kernel_rfl) i o h)
            have e30 := hout 30 (fun i o _ h => outB_spec (by kernel_rfl) i o h)
            have e31 := hout 31 (fun i o _ h => outB_spec (by kernel_rfl) i o h)
            have e32 := hout 32 (fun i o _ h => outB_spec (by kernel_rfl) i o h)
            have e33 := hout 33 (fun i o _ h => outB_spec (by kernel_rfl) i o h)
            have e34 := hout 34 (fun i o _ h => outB_spec (by kernel_rfl) i o h)
            have e35 := hout 35 (fun i o _ h => outB_spec (by kernel_rfl) i o h)
            have e36 := hout 36 (fun i o _ h => outB_spec (by kernel_rfl) i o h)
            have e37 := hout 37 (fun i o _ h => outB_spec (by kernel_rfl) i o h)
            have e38 := hout 38 (fun i o _ h => outB_spec (by kernel_rfl) i o h)
            have e39 := hout 39 (fun i o _ h => outB_spec (by kernel_rfl) i o h)
            have e40 := hout 40 (fun i o _ h => outB_spec (by kernel_rfl) i o h)
            have e41 := hout 41 (fun i o _ h => outB_spec (by kernel_rfl) i o h)
            have e42 := hout 42 (fun i o _ h => outB_spec (by kernel_rfl) i o h)
            have e43 := hout 43 (fun i o _ h => outB_spec (by kernel_rfl) i o h)
            have e44 := hout 44 (fun i o _ h => outB_spec (by kernel_rfl) i o h)
            have e45 := hout 45 (fun i o _ h => outB_spec (by kernel_rfl) i o h)
            have e46 := hout 46 (fun i o _ h => outB_spec (by kernel_rfl) i o h)
            have e47 := hout 47 (fun i o _ h => outB_spec (by kernel_rfl) i o h)
            have e48 := hout 48 (fun i o _ h => outB_spec (by kernel_rfl) i o h)
            have e49 := hout 49 (fun i o _ h => outB_spec (by kernel_rfl) i o h)
            have e50 := hout 50 (fun i o _ h => outB_spec (by kernel_rfl) i o h)
            have e51 := hout 51 (fun i o _ h => outB_spec (by kernel_rfl) i o h)
            have e52 := hout 52 (fun i o _ h => outB_spec (by kernel_rfl) i o h)
            have e53 := hout 53 (fun i o _ h => outB_spec (by kernel_rfl) i o h)
            have e62 := hout 62 (fun i o _ h => outB_spec (by kernel_rfl) i o h)
            have e63 := hout 63 (fun i o _ h => outB_spec (by kernel_rfl) i o h)
            have e64 := hout 64 (fun i o _ h => outB_spec (by kernel_rfl) i o h)
            have e65 := hout 65 (fun i o _ h => outB_spec (by kernel_rfl) i o h)
            have e66 := hout 66 (fun i o _ h => outB_spec (by kernel_rfl) i o h)
            have e67 := hout 67 (fun i o _ h => outB_spec (by kernel_rfl) i o h)
            have e68 := hout 68 (fun i o _ h => outB_spec (by kernel_rfl) i o h)
            have e69 := hout 69 (fun i o _ h => outB_spec (by kernel_rfl) i o h)
            have e70 := hout 70 (fun i o _ h => outB_spec (by kernel_rfl) i o h)
            have e71 := hout 71 (fun i o _ h => outB_spec (by kernel_rfl) i o h)
            have e72 := hout 72 (fun i o _ h => outB_spec (by kernel_rfl) i o h)
            have e73 := hout 73 (fun i o _ h => outB_spec (by kernel_rfl) i o h)
            simp only [Array.getD_eq_getD_getElem?, List.getElem?_toArray, List.getElem?_cons_zero, List.getElem?_cons_succ, Option.getD_some] at e0 e1 e2 e3 e4 e5 e6 e7 e8 e9 e10 e11 e12 e13 e15 e16 e17 e18 e19 e20 e21 e22 e23 e24 e25 e26 e27 e28 e29 e30 e31 e32 e33 e34 e35 e36 e37 e38 e39 e40 e41 e42 e43 e44 e45 e46 e47 e48 e49 e50 e51 e52 e53 e62 e63 e64 e65 e66 e67 e68 e69 e70 e71 e72 e73
            rw [e0, e1, e2, e3, e4, e5, e6, e7, e8, e9, e10, e11, e12, e13, e15, e16, e17, e18, e19, e20, e21, e22, e23, e24, e25, e26, e27, e28, e29, e30, e31, e32, e33, e34, e35, e36, e37, e38, e39, e40, e41, e42, e43, e44, e45, e46, e47, e48, e49, e50, e51, e52, e53, e62, e63, e64, e65, e66, e67, e68, e69, e70, e71, e72, e73] at hA
            clear e0 e1 e2 e3 e4 e5 e6 e7 e8 e9 e10 e11 e12 e13 e15 e16 e17 e18 e19 e20 e21 e22 e23 e24 e25 e26 e27 e28 e29 e30 e31 e32 e33 e34 e35 e36 e37 e38 e39 e40 e41 e42 e43 e44 e45 e46 e47 e48 e49 e50 e51 e52 e53 e62 e63 e64 e65 e66 e67 e68 e69 e70 e71 e72 e73 hout
            have hds2 : a.defers = [] := hdef
            have ea : a = ⟨a.tmps, a.defers⟩ := rfl
            have s61 : a.tmps[61]?.getD undef = digV Kj := by simpa [Array.getD_eq_getD_getElem?] using qv
            have s14 : a.tmps[14]?.getD undef = .pointer (some ⟨g, 0, none⟩) := by simpa [Array.getD_eq_getD_getElem?] using qu
            rw [hA, hds2, s61, s14] at ea
            clear hA hds2 s61 qv s14 qu hdef
            generalize a.tmps[54]?.getD undef = y54 at ea
            generalize a.tmps[55]?.getD undef = y55 at ea
            generalize a.tmps[56]?.getD undef = y56 at ea
            generalize a.tmps[57]?.getD undef = y57 at ea
            generalize a.tmps[58]?.getD undef = y58 at ea
            generalize a.tmps[59]?.getD undef = y59 at ea
            generalize a.tmps[60]?.getD undef = y60 at ea
            clear hsz
            subst ea
            have bx : Below wr.heap.size wr w2 := Below.trans (Below.refl _ _).drew hx
            unfold wpOp
            simp only [List.getElem?_toArray, List.getElem?_cons_zero, List.getElem?_cons_succ]
            rw [if_pos (by rfl)]
            left
            have TH : w2.there g 0 ds.toArray.size := by rw [show ds.toArray.size = 16 by simp [HDL.out]]; exact hB.there 16 rfl
            rw [HV.out]
            refine wp_store_mid 24 _ _ rfl g 0 ds.toArray rfl rfl TH hi3.out HO.out ?_
            have hDs := rowAll hB (by simp [HDL.out]; rfl : ds.toArray.size = zero16.size)
            have x3 : Ex wr (w2.setCells g 0 ds.toArray.toList) := sm_below_setCells _ _ _ hgb bx
            have PI : Hid ((Pt.mk (some ⟨g, 0, none⟩) 16 Kj).In (w2.setCells g 0 ds.toArray.toList) (w2.setCells g 0 ds.toArray.toList).heap.size) := by
              have h := bk_pt (w := w2.setCells g 0 ds.toArray.toList) (g := g) (t := 24) (l := Kj) (by rw [← HDS.out]; exact hDs)
              rw [HKl.out] at h
              exact Lib.hid h
            have hr6 := Lib.hid (hr5.out.ext x3)
            have hp6 := Lib.hid (hp5.out.ext x3)
            have bw6 : Below w.heap.size w (w2.setCells g 0 ds.toArray.toList) := bw5.trans (Below.mono x3 bz5)
            clear hDs hB TH bx hx x3 hr5 hp5 bw5 bz5 RA gl1 hgb
            generalize w2.setCells g 0 ds.toArray.toList = wr at *
            go_wp2_with fail
            have hp2l := HL2.out
            have hp2i := hp6.out
            have bz6 := bw6.size
            rw [HV2.out]
            obtain ⟨T, hT⟩ : ∃ T : List As, T = [.is (.slice (some ⟨g, 0, none⟩) 16 16), .is (.string (strL Kj)), .pt Z2, .is (.int .i64 j), .is (.int .i64 (16 * (j : Int))), .is (.int .i64 j), .is (.int .i64 (16 * (j : Int))), .is (.int .i64 (16 * (j : Int) + 16)), .pt Kj, .is (.string (strL Kj))] := ⟨_, rfl⟩
            refine wp_region_flow 10 (tabPhi T) (by kernel_rfl) rfl (by kernel_rfl) (by kernel_rfl) (by kernel_rfl) (tabPhi_stable T) (fitB_spec (by kernel_rfl)) ?_ ?_
            · intro i o hi ho
              have hi' : i = 0 ∨ i = 1 ∨ i = 2 ∨ i = 3 ∨ i = 4 ∨ i = 5 ∨ i = 6 ∨ i = 7 ∨ i = 8 ∨ i = 9 := by omega
              rcases hi' with rfl | rfl | rfl | rfl | rfl | rfl | rfl | rfl | rfl | rfl
              all_goals (simp only [List.getElem?_toArray, List.getElem?_cons_zero, List.getElem?_cons_succ, Option.some.injEq] at ho; subst ho; intro a w2 hx hsz hdep hout)
              · rw [if_pos (by rfl)]
                intro K hK
                have f := hout 14 (outB_spec (by kernel_rfl))
                clear hsz hdep hout
                go_simp
                exact hK _ _ (Ex.refl _) (by rw [hT]; rfl)
              · rw [if_pos (by rfl)]
                intro K hK
                obtain ⟨v, hv, kv⟩ := hdep ⟨0, .data⟩ (by simp) rfl _ rfl
                have qv := kv _ rfl
                rw [hT] at hv
                obtain rfl : v = .slice (some ⟨g, 0, none⟩) 16 16 := hv
                have cv := pt_conv _ w2 (PI.out.ext (Ex.trans (show Ex wr wr.drew from (Below.refl _ _).drew) hx))
                simp only [HKl.out] at cv
                have q := qv
                rw [Array.getD_eq_getD_getElem?] at q
                clear hsz hdep hout qv kv
                go_simp
                exact hK _ _ (Ex.refl _) (by rw [hT]; rfl)
              · rw [if_pos (by rfl)]
                intro K hK
                have f := hout 12 (outB_spec (by kernel_rfl))
                exact wp_mv _ rfl (hK _ _ (Ex.refl _) (by rw [hT]; exact ⟨pu, f, hp2l, hp2i.ext (Ex.trans (show Ex wr wr.drew from (Below.refl _ _).drew) hx)⟩))
              · rw [if_pos (by rfl)]
                intro K hK
                have f := hout 13 (outB_spec (by kernel_rfl))
                exact wp_mv _ rfl (hK _ _ (Ex.refl _) (by rw [hT]; exact f))
              · rw [if_pos (by rfl)]
                intro K hK
                obtain ⟨v, hv, kv⟩ := hdep ⟨3, .data⟩ (by simp) rfl _ rfl
                have qv := kv _ rfl
                rw [hT] at hv
                obtain rfl : v = .int .i64 j := hv
                clear hsz hdep hout kv
                go_simp
                exact hK _ _ (Ex.refl _) (by rw [hT]; show Value.int .i64 (IntKind.i64.wrap _) = _; rw [IntWalk.i64_in _ (by omega)])
              · rw [if_pos (by rfl)]
                intro K hK
                have f := hout 13 (outB_spec (by kernel_rfl))
                exact wp_mv _ rfl (hK _ _ (Ex.refl _) (by rw [hT]; exact f))
              · rw [if_pos (by rfl)]
                intro K hK
                obtain ⟨v, hv, kv⟩ := hdep ⟨5, .data⟩ (by simp) rfl _ rfl
                have qv := kv _ rfl
                rw [hT] at hv
                obtain rfl : v = .int .i64 j := hv
                clear hsz hdep hout kv
                go_simp
                exact hK _ _ (Ex.refl _) (by rw [hT]; show Value.int .i64 (IntKind.i64.wrap _) = _; rw [IntWalk.i64_in _ (by omega)])
              · rw [if_pos (by rfl)]
                intro K hK
                obtain ⟨v, hv, kv⟩ := hdep ⟨6, .data⟩ (by simp) rfl _ rfl
                have qv := kv _ rfl
                rw [hT] at hv
                obtain rfl : v = .int .i64 (16 * (j : Int)) := hv
                clear hsz hdep hout kv
                go_simp
                exact hK _ _ (Ex.refl _) (by rw [hT]; show Value.int .i64 (IntKind.i64.wrap _) = _; rw [IntWalk.i64_in _ (by omega)])
              · rw [if_pos (by rfl)]
                intro K hK
                obtain ⟨v, hv, kv⟩ := hdep ⟨2, .data⟩ (by simp) rfl _ rfl
                have qv := kv _ rfl
                rw [hT] at hv
                obtain ⟨pv, rfl, lv, iv⟩ := hv
                obtain ⟨u, hu, ku⟩ := hdep ⟨4, .data⟩ (by simp) rfl _ rfl
                have qu := ku _ rfl
                rw [hT] at hu
                obtain rfl : u = .int .i64 (16 * (j : Int)) := hu
                obtain ⟨x, hx, kx⟩ := hdep ⟨7, .data⟩ (by simp) rfl _ rfl
                have qx := kx _ rfl
                rw [hT] at hx
                obtain rfl : x = .int .i64 (16 * (j : Int) + 16) := hx
                obtain ⟨a', o', e', ha', hcc⟩ := iv.read (by rw [lv, HZ2.out]; omega)
                have hcap := iv.cap
                rw [lv, HZ2.out] at hcap
                have q1 : a.tmps[64]?.getD undef = .slice (some ⟨a', o', none⟩) m2 pv.cap := by rw [← Array.getD_eq_getD_getElem?, qv]; unfold Pt.V; rw [lv, HZ2.out, e']
                have q2 : a.tmps[66]?.getD undef = .int .i64 (16 * (j : Int)) := by rw [← Array.getD_eq_getD_getElem?]; exact qu
                have q3 : a.tmps[69]?.getD undef = .int .i64 (16 * (j : Int) + 16) := by rw [← Array.getD_eq_getD_getElem?]; exact qx
                have PT : Hid ((Pt.mk (some ⟨a', o' + 16 * j, none⟩) (pv.cap - 16 * j) Kj).In w2 w2.heap.size) := Lib.hid ⟨by show Kj.length ≤ pv.cap - 16 * j; rw [HKl.out]; omega, (fun h => by cases h), fun _ => ⟨a', o' + 16 * j, rfl, ha', fun i hi => by
          rw [Nat.add_assoc, hcc (16 * j + i) (by rw [lv, HZ2.out]; have h2 : i < Kj.length := hi; rw [HKl.out] at h2; omega), lv]
          have h2 : i < 16 := by have h3 : i < Kj.length := hi; rw [HKl.out] at h3; exact h3
          rw [← HBK.out]
          simp [List.getD, List.getElem?_take, List.getElem?_drop, h2]⟩⟩
                have hcut : j * 16 + 16 ≤ m2 := by omega
                clear hcc iv lv hsz hdep hout qv kv qu ku qx kx
                go_simp
                rw [if_pos (show (0 : Int) ≤ 16 * (j : Int) + 16 ∧ 16 * (j : Int) + 16 ≤ (pv.cap : Int) by omega), if_pos (show (0 : Int) ≤ 16 * (j : Int) ∧ 16 * (j : Int) ≤ max (16 * (j : Int) + 16) 0 by omega), if_neg (show ¬ pv.cap = (16 * (j : Int)).toNat by omega), show (16 * (j : Int)).toNat = 16 * j by omega, show (16 * (j : Int) + 16).toNat - 16 * j = 16 by omega]
                exact hK _ _ (Ex.refl _) (by rw [hT]; exact ⟨_, (by unfold Pt.V; simp only [HKl.out]), rfl, PT.out⟩)
              · rw [if_pos (by rfl)]
                intro K hK
                obtain ⟨v, hv, kv⟩ := hdep ⟨8, .data⟩ (by simp) rfl _ rfl
                have qv := kv _ rfl
                rw [hT] at hv
                obtain ⟨pv, rfl, lv, iv⟩ := hv
                have cv := pt_conv pv w2 iv
                rw [lv] at cv
                have q : a.tmps[70]?.getD undef = .slice pv.ad (Kj).length pv.cap := by rw [← Array.getD_eq_getD_getElem?, qv]; unfold Pt.V; rw [lv]
                generalize (Kj).length = nn at cv q
                clear hsz hdep hout qv kv lv
                go_simp
                exact hK _ _ (Ex.refl _) (by rw [hT]; rfl)
            · intro a w2 hx hdef hsz hdone hout
              obtain ⟨v, hv, kv⟩ := hdone 1 _ (by omega) rfl
              have qv := kv _ rfl
              rw [hT] at hv
              obtain rfl : v = .string (strL Kj) := hv
              obtain ⟨x, hx, kx⟩ := hdone 9 _ (by omega) rfl
              have qx := kx _ rfl
              rw [hT] at hx
              obtain rfl : x = .string (strL Kj) := hx
              clear hdone kv kx hT
              have hA := arr_range a.tmps 74 hsz
              change a.tmps = #[a.tmps[0]?.getD undef, a.tmps[1]?.getD undef, a.tmps[2]?.getD undef, a.tmps[3]?.getD undef, a.tmps[4]?.getD undef, a.tmps[5]?.getD undef, a.tmps[6]?.getD undef, a.tmps[7]?.getD undef, a.tmps[8]?.getD undef, a.tmps[9]?.getD undef, a.tmps[10]?.getD undef, a.tmps[11]?.getD undef, a.tmps[12]?.getD undef, a.tmps[13]?.getD undef, a.tmps[14]?.getD undef, a.tmps[15]?.getD undef, a.tmps[16]?.getD undef, a.tmps[17]?.getD undef, a.tmps[18]?.getD undef, a.tmps[19]?.getD undef, a.tmps[20]?.getD undef, a.tmps[21]?.getD undef, a.tmps[22]?.getD undef, a.tmps[23]?.getD undef, a.tmps[24]?.getD undef, a.tmps[25]?.getD undef, a.tmps[26]?.getD undef, a.tmps[27]?.getD undef, a.tmps[28]?.getD undef, a.tmps[29]?.getD undef, a.tmps[30]?.getD undef, a.tmps[31]?.getD undef, a.tmps[32]?.getD undef, a.tmps[33]?.getD undef, a.tmps[34]?.getD undef, a.tmps[35]?.getD undef, a.tmps[36]?.getD undef, a.tmps[37]?.getD undef, a.tmps[38]?.getD undef, a.tmps[39]?.getD undef, a.tmps[40]?.getD undef, a.tmps[41]?.getD undef, a.tmps[42]?.getD undef, a.tmps[43]?.getD undef, a.tmps[44]?.getD undef, a.tmps[45]?.getD undef, a.tmps[46]?.getD undef, a.tmps[47]?.getD undef, a.tmps[48]?.getD undef, a.tmps[49]?.getD undef, a.tmps[50]?.getD undef, a.tmps[51]?.getD undef, a.tmps[52]?.getD undef, a.tmps[53]?.getD undef, a.tmps[54]?.getD undef, a.tmps[55]?.getD undef, a.tmps[56]?.getD undef, a.tmps[57]?.getD undef, a.tmps[58]?.getD undef, a.tmps[59]?.getD undef, a.tmps[60]?.getD undef, a.tmps[61]?.getD undef, a.tmps[62]?.getD undef, a.tmps[63]?.getD undef, a.tmps[64]?.getD undef, a.tmps[65]?.getD undef, a.tmps[66]?.getD undef, a.tmps[67]?.getD undef, a.tmps[68]?.getD undef, a.tmps[69]?.getD undef, a.tmps[70]?.getD undef, a.tmps[71]?.getD undef, a.tmps[72]?.getD undef, a.tmps[73]?.getD undef] at hA
              have e0 := hout 0 (fun i o _ h => outB_spec (by kernel_rfl) i o h)
              have e1 := hout 1 (fun i o _ h => outB_spec (by kernel_rfl) i o h)
              have e2 := hout 2 (fun i o _ h => outB_spec (by kernel_rfl) i o h)
              have e3 := hout 3 (fun i o _ h => outB_spec (by kernel_rfl) i o h)
              have e4 := hout 4 (fun i o _ h => outB_spec (by kernel_rfl) i o h)
              have e5 := hout 5 (fun i o _ h => outB_spec (by kernel_rfl) i o h)
              have e6 := hout 6 (fun i o _ h => outB_spec (by kernel_rfl) i o h)
              have e7 := hout 7 (fun i o _ h => outB_spec (by kernel_rfl) i o h)
              have e8 := hout 8 (fun i o _ h => outB_spec (by kernel_rfl) i o h)
              have e9 := hout 9 (fun i o _ h => outB_spec (by kernel_rfl) i o h)
              have e10 := hout 10 (fun i o _ h => outB_spec (by kernel_rfl) i o h)
              have e11 := hout 11 (fun i o _ h => outB_spec (by kernel_rfl) i o h)
              have e12 := hout 12 (fun i o _ h => outB_spec (by kernel_rfl) i o h)
              have e13 := hout 13 (fun i o _ h => outB_spec (by kernel_rfl) i o h)
              have e14 := hout 14 (fun i o _ h => outB_spec (by kernel_rfl) i o h)
              have e15 := hout 15 (fun i o _ h => outB_spec (by kernel_rfl) i o h)
              have e16 := hout 16 (fun i o _ h => outB_spec (by kernel_rfl) i o h)
              have e17 := hout 17 (fun i o _ h => outB_spec (by kernel_rfl) i o h)
              have e18 := hout 18 (fun i o _ h => outB_spec (by kernel_rfl) i o h)
              have e19 := hout 19 (fun i o _ h => outB_spec (by kernel_rfl) i o h)
              have e20 := hout 20 (fun i o _ h => outB_spec (by kernel_rfl) i o h)
              have e21 := hout 21 (fun i o _ h => outB_spec (by kernel_rfl) i o h)
              have e22 := hout 22 (fun i o _ h => outB_spec (by kernel_rfl) i o h)
              have e23 := hout 23 (fun i o _ h => outB_spec (by kernel_rfl) i o h)
              have e24 := hout 24 (fun i o _ h => outB_spec (by kernel_rfl) i o h)
              have e25 := hout 25 (fun i o _ h => outB_spec (by kernel_rfl) i o h)
              have e26 := hout 26 (fun i o _ h => outB_spec (by kernel_rfl) i o h)
              have e27 := hout 27 (fun i o _ h => outB_spec (by kernel_rfl) i o h)
              have e28 := hout 28 (fun i o _ h => outB_spec (by kernel_rfl) i o h)
              have e29 := hout 29 (fun i o _ h => outB_spec (by kernel_rfl) i o h)
              have e30 := hout 30 (fun i o _ h => outB_spec (by kernel_rfl) i o h)
              have e31 := hout 31 (fun i o _ h => outB_spec (by kernel_rfl) i o h)
              have e32 := hout 32 (fun i o _ h => outB_spec (by kernel_rfl) i o h)
              have e33 := hout 33 (fun i o _ h => outB_spec (by kernel_rfl) i o h)
              have e34 := hout 34 (fun i o _ h => outB_spec (by kernel_rfl) i o h)
              have e35 := hout 35 (fun i o _ h => outB_spec (by kernel_rfl) i o h)
              have e36 := hout 36 (fun i o _ h => outB_spec (by kernel_rfl) i o h)
              have e37 := hout 37 (fun i o _ h => outB_spec (by kernel_rfl) i o h)
              have e38 := hout 38 (fun i o _ h => outB_spec (by kernel_rfl) i o h)
              have e39 := hout 39 (fun i o _ h => outB_spec (by kernel_rfl) i o h)
              have e40 := hout 40 (fun i o _ h => outB_spec (by kernel_rfl) i o h)
              have e41 := hout 41 (fun i o _ h => outB_spec (by kernel_rfl) i o h)
              have e42 := hout 42 (fun i o _ h => outB_spec (by kernel_rfl) i o h)
              have e43 := hout 43 (fun i o _ h => outB_spec (by kernel_rfl) i o h)
              have e44 := hout 44 (fun i o _ h => outB_spec (by kernel_rfl) i o h)
              have e45 := hout 45 (fun i o _ h => outB_spec (by kernel_rfl) i o h)
              have e46 := hout 46 (fun i o _ h => outB_spec (by kernel_rfl) i o h)
              have e47 := hout 47 (fun i o _ h => outB_spec (by kernel_rfl) i o h)
              have e48 := hout 48 (fun i o _ h => outB_spec (by kernel_rfl) i o h)
              have e49 := hout 49 (fun i o _ h => outB_spec (by kernel_rfl) i o h)
              have e50 := hout 50 (fun i o _ h => outB_spec (by kernel_rfl) i o h)
              have e51 := hout 51 (fun i o _ h => outB_spec (by kernel_rfl) i o h)
              have e52 := hout 52 (fun i o _ h => outB_spec (by kernel_rfl) i o h)
              have e53 := hout 53 (fun i o _ h => outB_spec (by kernel_rfl) i o h)
              have e54 := hout 54 (fun i o _ h => outB_spec (by kernel_rfl) i o h)
              have e55 := hout 55 (fun i o _ h => outB_spec (by kernel_rfl) i o h)
              have e56 := hout 56 (fun i o _ h => outB_spec (by kernel_rfl) i o h)
              have e57 := hout 57 (fun i o _ h => outB_spec (by kernel_rfl) i o h)
              have e58 := hout 58 (fun i o _ h => outB_spec (by kernel_rfl) i o h)
              have e59 := hout 59 (fun i o _ h => outB_spec (by kernel_rfl) i o h)
              have e60 := hout 60 (fun i o _ h => outB_spec (by kernel_rfl) i o h)
              have e61 := hout 61 (fun i o _ h => outB_spec (by kernel_rfl) i o h)
              have e73 := hout 73 (fun i o _ h => outB_spec (by kernel_rfl) i o h)
              simp only [Array.getD_eq_getD_getElem?, List.getElem?_toArray, List.getElem?_cons_zero, List.getElem?_cons_succ, Option.getD_some] at e0 e1 e2 e3 e4 e5 e6 e7 e8 e9 e10 e11 e12 e13 e14 e15 e16 e17 e18 e19 e20 e21 e22 e23 e24 e25 e26 e27 e28 e29 e30 e31 e32 e33 e34 e35 e36 e37 e38 e39 e40 e41 e42 e43 e44 e45 e46 e47 e48 e49 e50 e51 e52 e53 e54 e55 e56 e57 e58 e59 e60 e61 e73
              rw [e0, e1, e2, e3, e4, e5, e6, e7, e8, e9, e10, e11, e12, e13, e14, e15, e16, e17, e18, e19, e20, e21, e22, e23, e24, e25, e26, e27, e28, e29, e30, e31, e32, e33, e34, e35, e36, e37, e38, e39, e40, e41, e42, e43, e44, e45, e46, e47, e48, e49, e50, e51, e52, e53, e54, e55, e56, e57, e58, e59, e60, e61, e73] at hA
              clear e0 e1 e2 e3 e4 e5 e6 e7 e8 e9 e10 e11 e12 e13 e14 e15 e16 e17 e18 e19 e20 e21 e22 e23 e24 e25 e26 e27 e28 e29 e30 e31 e32 e33 e34 e35 e36 e37 e38 e39 e40 e41 e42 e43 e44 e45 e46 e47 e48 e49 e50 e51 e52 e53 e54 e55 e56 e57 e58 e59 e60 e61 e73 hout
              have hds2 : a.defers = [] := hdef
              have ea : a = ⟨a.tmps, a.defers⟩ := rfl
              have s63 : a.tmps[63]?.getD undef = .string (strL Kj) := by simpa [Array.getD_eq_getD_getElem?] using qv
              have s71 : a.tmps[71]?.getD undef = .string (strL Kj) := by simpa [Array.getD_eq_getD_getElem?] using qx
              rw [hA, hds2, s63, s71] at ea
              clear hA hds2 s63 qv s71 qx hdef
              generalize a.tmps[62]?.getD undef = y62 at ea
              generalize a.tmps[64]?.getD undef = y64 at ea
              generalize a.tmps[65]?.getD undef = y65 at ea
              generalize a.tmps[66]?.getD undef = y66 at ea
              generalize a.tmps[67]?.getD undef = y67 at ea
              generalize a.tmps[68]?.getD undef = y68 at ea
              generalize a.tmps[69]?.getD undef = y69 at ea
              generalize a.tmps[70]?.getD undef = y70 at ea
              generalize a.tmps[72]?.getD undef = y72 at ea
              clear hsz
              subst ea
              have bx : Below wr.heap.size wr w2 := Below.trans (Below.refl _ _).drew hx
              unfold wpOp
              simp only [List.getElem?_toArray, List.getElem?_cons_zero, List.getElem?_cons_succ]
              rw [if_pos (by rfl)]
              left
              have hr7 := Lib.hid (hr6.out.ext (show Ex wr w2 from bx))
              have hp7 := Lib.hid (hp6.out.ext (show Ex wr w2 from bx))
              have bw7 := bw6.trans (bx.mono bz6)
              clear hr6 hp6 bw6 bx hx hp2i hp2l bz6 PI
              rw [← HV2.out]
              go_simp
              go_wp2_with fail
              go_roundw
              case rel => exact ⟨j + 1, by omega, by go_num, hr7, hp7, bw7⟩
              case measure => simp [intOf]; omega
        · have hx : m2 < 16 * j + 16 := by omega
          have KN := Lib.hid (known2_any wr)
          go_wp2_with fail
          refine KN.out.mono ?_
          rintro e w3 ⟨rfl, x3⟩
          have b3 : Below w.heap.size w w3 := bw5.trans (x3.mono bw5.size)
          clear x3 KN
          go_wp2_with fail
          go_ret
          exact ⟨rfl, b3⟩
end Go.Proofs.Ytkneeocicbadjaa
