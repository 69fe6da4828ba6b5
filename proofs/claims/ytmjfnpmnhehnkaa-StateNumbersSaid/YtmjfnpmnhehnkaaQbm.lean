/- Rt, Ru, Rv, Rn, Rw, Rx -/
import Derived.Test.YtmjfnpmnhehnkaaQbl
set_option maxRecDepth 100000
set_option maxHeartbeats 16000000
namespace Go.Proofs.Ytmjfnpmnhehnkaa
open Go.RowKit
def pz (p : Nat → Pa) (k : Int) : Pa := if 0 ≤ k ∧ k < 16 then p k.toNat else ⟨0, 0, 0⟩
def cz (C : Nat → List Vc) (k : Int) : List Vc := if 0 ≤ k ∧ k < 16 then C k.toNat else []
theorem pz_at (p : Nat → Pa) {i : Nat} (h : i < 16) : pz p i = p i := if_pos ⟨by omega, by omega⟩
theorem cz_at (C : Nat → List Vc) {i : Nat} (h : i < 16) : cz C i = C i := if_pos ⟨by omega, by omega⟩
theorem role_int (B M : Nat) (m n : Int) (p : Nat → Pa) (D : Nat → Nat) (r : Nat → Value) (v : Nat → List Vt) (k : Int) (w : World) (h : SS w B M m n p D r v) : Calls Try.prog 18 #[.pointer (some ⟨M, 0, none⟩), .int .i64 k] w fun e w' => e = .returned (.tuple #[.int .i64 (pz p k).role, .int .u64 (pz p k).ep, .int .i64 (pz p k).tw]) ∧ Ex w w' := by
 by_cases hk : 0 ≤ k ∧ k < 16
 ·obtain ⟨i, rfl⟩ : ∃ i : Nat, k = i := ⟨k.toNat, by omega⟩
  rw [pz_at p (show i < 16 by omega)]
  exact role_any B M m n p D r v i (by omega) w h
 rw [show pz p k = ⟨0, 0, 0⟩ from if_neg hk]
 exact (role_bad M k hk w).mono (by rintro e w1 ⟨rfl, rfl⟩; exact ⟨rfl, Ex.refl _⟩)
theorem svaults_int (B M : Nat) (m n : Int) (p : Nat → Pa) (D : Nat → Nat) (r : Nat → Value) (v : Nat → List Vt) (k : Int) (w : World) (h : SS w B M m n p D r v) : Calls Try.prog 26 #[.pointer (some ⟨M, 0, none⟩), .int .i64 k] w (RowPost (cz (ctF v) k) w) := by
 by_cases hk : 0 ≤ k ∧ k < 16
 ·obtain ⟨i, rfl⟩ : ∃ i : Nat, k = i := ⟨k.toNat, by omega⟩
  rw [cz_at (ctF v) (show i < 16 by omega)]
  exact svaults_any B M m n p D r v i (by omega) w h
 rw [show cz (ctF v) k = [] from if_neg hk]
 exact (svaults_bad M k hk w).mono (by rintro e w1 ⟨rfl, rfl⟩; exact ⟨_, [], rfl, VRow.nil _ _, rfl, Ex.refl _⟩)
theorem srC_seg (m n : Int) (p : Nat → Pa) (D : Nat → Value) {i : Nat} (hi : i < 16) : ((srC m n p D).drop (2 + i * 4)).take (partR (p i) (D i)).length = partR (p i) (D i) := by
 have hq : (partR (p i) (D i)).length = 4 := rfl
 apply List.ext_getElem?
 intro k
 rw [hq]
 rcases Nat.lt_or_ge k 4 with h | h
 ·rw [List.getElem?_take, if_pos h, List.getElem?_drop]
  exact srC_at m n p D hi h
 rw [List.getElem?_eq_none (by rw [List.length_take]; omega), List.getElem?_eq_none (by rw [hq]; omega)]
theorem built_rp : Try.prog.built 105 [] = some (partR ⟨0, 0, 0⟩ (.slice none 0 0)).toArray := by kernel_rfl
section
variable {o : Oper} {a : Act} {w : World} {K : Act → World → Prop} {Q : Exit → Act → World → Prop}
theorem ld_srp {M : Nat} {m n : Int} {p : Nat → Pa} {D : Nat → Value} (x : Operand) (i : Nat) (hi : i < 16) (ho : o.op = .load 105 x) (ha : a.eval x = .pointer (some ⟨M, 2 + i * 4, none⟩)) (h : Bk w M 124 (srC m n p D).toArray) (hk : K (a.put o.dst (.agg (partR (p i) (D i)).toArray)) w) : o.wp Try.prog a w K Q := by
 obtain ⟨dd, hd⟩ : ∃ d, Try.prog.underlying 105 = some d ∧ d.isRow = true := ⟨_, Try.underlying105, rfl⟩
 exact wp_ldp (C := srC m n p D) (partR (p i) (D i)) x M (2 + i * 4) dd ho ha h (srC_seg m n p D hi) hd.1 hd.2 (by rw [Try.sizeRP]; rfl) hk
theorem st_rp (x y : Operand) (g : Nat) (p : Pa) (ad : Option Addr) (nn cap : Nat) (ho : o.op = .store 105 x y) (ha : a.eval x = .pointer (some ⟨g, 0, none⟩)) (hy : a.eval y = .agg (partR p (.slice ad nn cap)).toArray) {Y : Array Value} (hB : Bk w g 105 Y) (hY : Y.size = 4) (hk : ∀ w', Bk w' g 105 (partR p (.slice ad nn cap)).toArray → Only g w w' → K (a.put o.dst undef) w') : o.wp Try.prog a w K Q := by
 have hB' : Bk w g 105 Y.toList.toArray := by simpa using hB
 refine wp_stp (partR p (.slice ad nn cap)) x y g 0 ho ha hy hB' (by show 0 + 4 ≤ Y.toList.length; simp [hY]) (by rw [Try.sizeRP]; rfl) (partR_ones p ad nn cap) (fun w' h1 h2 => hk w' ?_ h2)
 have e : Y.toList.take 0 ++ partR p (.slice ad nn cap) ++ Y.toList.drop (0 + (partR p (.slice ad nn cap)).length) = partR p (.slice ad nn cap) := by
  rw [List.take_zero, List.nil_append, List.drop_eq_nil_of_le (by show Y.toList.length ≤ 0 + 4; simp [hY]), List.append_nil]
 rw [e] at h1; exact h1
end
theorem rz_in (w0 : World) (M : Nat) (m n : Int) (p : Nat → Pa) (R : Nat → Value) (xs : Nat → List Vt) {w : World} (h : RS w0 w M m n p R xs) (k : Int) : ∃ ad cap zs, (k < 0 ∨ 16 ≤ k → ad = none ∧ cap = 0 ∧ zs = []) ∧ (0 ≤ k ∧ k < 16 → R k.toNat = .slice ad zs.length cap) ∧ Vp.In ad cap zs w ∧ cap ≤ 9223372036854775807 ∧ (∀ (i : Nat) (x : Vt), zs[i]? = some x → VI w x) ∧ zs.map Vt.ct = cz (ctF xs) k := by
 by_cases hk : 0 ≤ k ∧ k < 16
 ·obtain ⟨ad, cap, e, h1, h2⟩ := (h.rw k.toNat (by omega)).inn
  exact ⟨ad, cap, xs k.toNat, fun h => by omega, fun _ => e, h1, h2, (h.rw k.toNat (by omega)).vi h.sz, (if_pos hk).symm⟩
 exact ⟨none, 0, [], fun _ => ⟨rfl, rfl, rfl⟩, fun h => absurd h hk, ⟨Nat.le_refl _, fun _ => rfl, fun i x hx => by simp at hx, fun h => absurd h (Nat.lt_irrefl 0)⟩, by decide, fun i x hx => by simp at hx, (if_neg hk).symm⟩
theorem same16 (w0 : World) (B M : Nat) (m n : Int) (p : Nat → Pa) (D : Nat → Nat) (r : Nat → Value) (v : Nat → List Vt) (M2 : Nat) (R : Nat → Value) (xs : Nat → List Vt) (w : World) (hs : SS w B M m n p D r v) (hf : RS w0 w M2 m n p R xs) (heq : ∀ i, i < 16 → ctF v i = ctF xs i) : Calls Try.prog 56 #[.pointer (some ⟨M, 0, none⟩), .pointer (some ⟨M2, 0, none⟩)] w fun e w' => e = .returned (.bool true) ∧ Ex w w' := by
 have HS := Hi hs
 have HF := Hi hf
 have HEQ := Hi heq
 clear hs hf heq
 go_enter Try.func56, Try.ntmps56
 go_wp2_with fail
 go_loopw [5] (fun i wr => ∃ k : Int, -1 ≤ k ∧ k ≤ 17 ∧ i = .int .i64 k ∧ Hid (Ex w wr)) (fun i _ => (17 - intOf i).toNat)
 case atStart => exact ⟨-1, by omega, by omega, rfl, Hi (Ex.refl _)⟩
 obtain ⟨k, hk0, hk, rfl, BX⟩ := hrel
 by_cases hlt : k ≤ 16
 rotate_left
 ·obtain rfl : k = 17 := by omega
  go_wp2_with fail
  refine (who_any B M m n p D r v wr (HS.out.ext BX.out)).mono ?_
  rintro e w2 ⟨rfl, x2⟩
  replace BX := Hi (Ex.trans BX.out x2)
  clear x2
  have hd1 := (HF.out.ext BX.out).heads.1
  have hd2 := (HF.out.ext BX.out).heads.2
  go_wp2_with fail
  refine (lent_any B M m n p D r v w2 (HS.out.ext BX.out)).mono ?_
  rintro e w3 ⟨v1, rfl, r1, x3⟩
  have B3 := Hi (Ex.trans BX.out x3)
  have R1 := Hi r1
  clear r1 x3 hd1 hd2 BX
  go_wp2_with fail
  refine (rlent_any w0 M2 m n p R xs w3 (HF.out.ext B3.out)).mono ?_
  rintro e w4 ⟨v2, rfl, r2, x4⟩
  have B4 := Hi (Ex.trans B3.out x4)
  obtain ⟨ad1, cap1, rfl, _, _, _, d1⟩ := own_rd (x4.row R1.out)
  obtain ⟨ad2, cap2, rfl, _, _, _, d2⟩ := own_rd r2
  have D1 := Hi d1
  have D2 := Hi d2
  clear r2 x4 d1 d2 R1 B3
  go_wp2_with fail
  have hl9 : (lentL p 16).length ≤ 1000 := Nat.le_trans (lentL_len p 16) (by decide)
  have CS := sames_any ad1 ad2 cap1 cap2 (lentL p 16) (lentL p 16) w4 D1.out D2.out hl9 hl9
  rw [decide_eq_true rfl] at CS
  refine CS.mono ?_
  clear CS
  rintro e w5 ⟨rfl, x5⟩
  have B5 := Hi (Ex.trans B4.out x5)
  clear x5
  go_wp2_with fail
  go_ret
  exact ⟨rfl, B5.out⟩
 go_wp2_with fail
 refine (role_int B M m n p D r v k wr (HS.out.ext BX.out)).mono ?_
 rintro e w2 ⟨rfl, x2⟩
 replace BX := Hi (Ex.trans BX.out x2)
 clear x2
 obtain ⟨q, hq⟩ : ∃ q, q = pz p k := ⟨_, rfl⟩
 have HQ := Hi hq
 rw [← hq]
 clear hq
 obtain ⟨ad, cap, zs, z1, z2, z3, z4, z5, z6⟩ := rz_in w0 M2 m n p R xs (HF.out.ext BX.out) k
 have Z1 := Hi z1
 have Z2 := Hi z2
 have ZI := Hi z3
 have ZV := Hi z5
 have ZC := Hi z6
 clear z1 z2 z3 z5 z6
 obtain ⟨nn, hn⟩ : ∃ n, n = zs.length := ⟨_, rfl⟩
 have HN := Hi hn
 rw [← hn] at Z2
 clear hn
 go_wp2_with ((with_reducible refine so4 [105, 1000+105, 4000+105] ?_ ?_); (focus rfl))
 refine at9 (by go_simp) fun K0 hK => wp_build _ _ rfl _ built_rp (hK _ _ ?_)
 clear hK
 go_wp2_with ((with_reducible refine so4 [105, 1000+105, 4000+105] ?_ ?_); (focus rfl))
 refine at9 (by go_simp) fun K0 hK => st_rp _ _ w2.heap.size ⟨0, 0, 0⟩ none 0 0 rfl rfl rfl (Bk.new rfl _ _) (by rfl) (fun w3 hd ho => hK _ _ ?_)
 clear hK
 have x3 : Ex w2 w3 := ho.below w2.heap.size (Nat.le_refl _) w2 (Ex.alloc w2 _)
 obtain ⟨g, hg⟩ : ∃ g, g = w2.heap.size := ⟨_, rfl⟩
 rw [← hg] at hd ⊢
 have HG := Hi hd
 have B3 := Hi (Ex.trans BX.out x3)
 have X3 := Hi x3
 have HGL := Hi hg
 clear hd ho x3 hg
 go_upto_region 6 with fail
 simp only [Act.put]
 obtain ⟨b, hb⟩ : ∃ b, b = decide (0 ≤ k ∧ k < 16) := ⟨_, rfl⟩
 have HB := Hi hb
 clear hb
 go_cut [29] (fun v wd => v = .bool b ∧ wd = w3)
 case first =>
  by_cases k0 : 0 ≤ k
  ·by_cases k1 : k < 16
   ·go_wp2_with fail
    go_meet
    case rel => exact ⟨congrArg Value.bool (by rw [HB.out]; exact (decide_eq_true (p := (0 ≤ k ∧ k < 16)) ⟨k0, k1⟩).symm), rfl⟩
   go_wp2_with fail
   go_meet
   case rel => exact ⟨congrArg Value.bool (by rw [HB.out]; exact (decide_eq_false (p := (0 ≤ k ∧ k < 16)) (fun h => by omega)).symm), rfl⟩
  go_wp2_with fail
  go_meet
  case rel => exact ⟨congrArg Value.bool (by rw [HB.out]; exact (decide_eq_false (p := (0 ≤ k ∧ k < 16)) (fun h => by omega)).symm), rfl⟩
 obtain ⟨rfl, hw9⟩ := hcut
 replace hw9 := hw9.symm
 subst hw9
 go_upto_if 29 with fail
 go_cut [] (fun wc => Hid (Bk wc g 105 (partR q (.slice ad nn cap)).toArray) ∧ Hid (Ex w2 wc))
 case first =>
  cases b
  case false =>
   have ZQ : Hid (Bk w3 g 105 (partR q (.slice ad nn cap)).toArray) := Hi (by
    have hk9 : ¬ (0 ≤ k ∧ k < 16) := of_decide_eq_false HB.out.symm
    have hq9 : q = ⟨0, 0, 0⟩ := HQ.out.trans (if_neg hk9)
    obtain ⟨e1, e2, e3⟩ := Z1.out (by omega)
    have e4 : nn = 0 := by rw [HN.out, e3]; rfl
    rw [hq9, e1, e2, e4]; exact HG.out)
   go_wp2_with fail
   go_meet
   case rel => exact ⟨ZQ, X3⟩
  obtain ⟨k0, k1⟩ := of_decide_eq_true HB.out.symm
  obtain ⟨i, rfl⟩ : ∃ i : Nat, k = i := ⟨k.toNat, by omega⟩
  have HQI : Hid (q = p i) := Hi (HQ.out.trans (pz_at p (by omega)))
  have ZR : Hid (R i = .slice ad nn cap) := Hi (Z2.out ⟨k0, k1⟩)
  have i16 : i < 16 := by omega
  go_wp2_with ((with_reducible refine so4 [105, 1000+105, 4000+105] ?_ ?_); (focus rfl))
  refine at9 (by go_simp) fun K0 hK => ld_srp _ i i16 rfl rfl (HF.out.ext B3.out).blk (hK _ _ ?_)
  clear hK
  rw [← HQI.out, ZR.out]
  go_wp2_with ((with_reducible refine so4 [105, 1000+105, 4000+105] ?_ ?_); (focus rfl))
  refine at9 (by go_simp) fun K0 hK => st_rp _ _ g q ad nn cap rfl rfl rfl HG.out rfl (fun w4 hd ho => hK _ _ ?_)
  clear hK
  have x4 : Ex w2 w4 := ho.below w2.heap.size (by rw [HGL.out]; exact Nat.le_refl _) w2 X3.out
  have HG4 := Hi hd
  have X4 := Hi x4
  clear hd ho x4
  go_wp2_with fail
  go_meet
  case rel => exact ⟨HG4, X4⟩
 clear HG X3 B3 Z1 Z2 HGL HB
 obtain ⟨HG, X4⟩ := hcut
 replace BX := Hi (Ex.trans BX.out X4.out)
 have ZI4 := Hi (ZI.out.ext X4.out)
 have ZV4 := Hi (fun (i : Nat) (x : Vt) (hx : zs[i]? = some x) => (ZV.out i x hx).ext X4.out)
 have CC : Hid (cz (ctF v) k = zs.map Vt.ct) := Hi (by
  rw [ZC.out]; unfold cz
  split
  ·exact HEQ.out _ (by omega)
  ·rfl)
 clear X4 ZI ZV ZC
 go_wp2_with fail
 have hS0 : ∀ (listed : Array Bool) (f : Nat → Value), (∀ i, listed.getD i false = false) → SA2 19 99 wc (cz (ctF v) k) [] listed f wc.drew := fun _ _ h0 => SA2.start h0 (Below.refl wc.heap.size wc).drew
 obtain ⟨T, hT⟩ : ∃ T : List (Value → Prop), T = [(fun zz => zz = .int .i64 q.role), (fun zz => zz = .pointer (some ⟨g, 0, none⟩)), (fun zz => zz = .int .i64 q.role), (fun zz => zz = .bool false), (fun zz => zz = .bool false), (fun zz => zz = .int .u64 q.ep), (fun zz => zz = .pointer (some ⟨g, 1, none⟩)), (fun zz => zz = .int .u64 q.ep), (fun zz => zz = .bool false), (fun zz => zz = .bool false), (fun zz => zz = .bool false), (fun zz => zz = .int .i64 q.tw), (fun zz => zz = .pointer (some ⟨g, 2, none⟩)), (fun zz => zz = .int .i64 q.tw), (fun zz => zz = .bool false), (fun zz => zz = .bool false), (fun zz => zz = .bool false), (fun zz => zz = .pointer (some ⟨M, 0, none⟩)), (fun zz => zz = .int .i64 k), (fun _ => True), (fun zz => zz = .pointer (some ⟨g, 3, none⟩)), (fun zz => zz = .slice ad nn cap), (fun zz => zz = .bool true), (fun zz => zz = .bool false), (fun zz => zz = .bool false)] := ⟨_, rfl⟩
 refine wp_region_gen (JS T ([] : List (Nat × Nat)) (fun lz fz wz => SA2 19 99 wc (cz (ctF v) k) [] lz fz wz)) (by kernel_rfl) (by kernel_rfl) (by kernel_rfl) (fitB_spec (by kernel_rfl)) (fun listed f h => JS.start listed f h (hS0 listed f h)) ?_ ?_
 ·intro i o ho
  have hi : i < 25 := (Array.getElem?_eq_some_iff.1 ho).1
  have hi' : i = 0 ∨ i = 1 ∨ i = 2 ∨ i = 3 ∨ i = 4 ∨ i = 5 ∨ i = 6 ∨ i = 7 ∨ i = 8 ∨ i = 9 ∨ i = 10 ∨ i = 11 ∨ i = 12 ∨ i = 13 ∨ i = 14 ∨ i = 15 ∨ i = 16 ∨ i = 17 ∨ i = 18 ∨ i = 19 ∨ i = 20 ∨ i = 21 ∨ i = 22 ∨ i = 23 ∨ i = 24 := by omega
  clear hi
  rcases hi' with rfl | rfl | rfl | rfl | rfl | rfl | rfl | rfl | rfl | rfl | rfl | rfl | rfl | rfl | rfl | rfl | rfl | rfl | rfl | rfl | rfl | rfl | rfl | rfl | rfl
  all_goals (simp only [List.getElem?_toArray, List.getElem?_cons_zero, List.getElem?_cons_succ, Option.some.injEq] at ho; subst ho; intro listed f a w6 hJ hsz hls hun hdep hout hlat; first | (rw [if_pos (by rfl)]; intro K hK) | skip)
  ·have q6 := hout 6 ob
   have hord := nil_ord 0 listed
   exact wp_mw _ rfl q6 (hK _ _ (hJ.nx hls hT rfl rfl (SA2.plain hJ.st (Ex.refl _) 0 (by decide)) hord))
  ·have q9 := hout 9 ob
   have hord := nil_ord 1 listed
   rw [gd9] at q9
   clear hsz hdep hout hlat
   go_simp
   exact hK _ _ (hJ.nx hls hT rfl rfl (SA2.plain hJ.st (Ex.refl _) 1 (by decide)) hord)
  ·have q37 := hJ.is hT (hdep ⟨1, .data⟩ (by simp) rfl) rfl _ rfl _ rfl
   have hord := nil_ord 2 listed
   have cc : w6.cell? ⟨g, 0, none⟩ = some (.int .i64 q.role) := ((HG.out.ext hJ.st.ex).cell 0).trans rfl
   rw [gd9] at q37
   clear hsz hdep hout hlat
   go_simp
   exact hK _ _ (hJ.nx hls hT rfl rfl (SA2.plain hJ.st (Ex.refl _) 2 (by decide)) hord)
  ·have q36 := hJ.is hT (hdep ⟨0, .data⟩ (by simp) rfl) rfl _ rfl _ rfl
   have q38 := hJ.is hT (hdep ⟨2, .data⟩ (by simp) rfl) rfl _ rfl _ rfl
   have hord := nil_ord 3 listed
   rw [gd9] at q36
   rw [gd9] at q38
   clear hsz hdep hout hlat
   go_simp
   exact hK _ _ (hJ.nx hls hT rfl (by first | rfl | exact congrArg (Value.int .i64) (by omega) | exact congrArg (Value.int .i64) (by rw [IntKind.wrap_i64]; omega) | exact congrArg Value.bool (decide_eq_false (by omega)) | exact congrArg Value.bool (decide_eq_true (by omega)) | exact congrArg (Value.int .u64) (by omega)) (SA2.plain hJ.st (Ex.refl _) 3 (by decide)) hord)
  ·have q39 := hJ.is hT (hdep ⟨3, .data⟩ (by simp) rfl) rfl _ rfl _ rfl
   have hord := nil_ord 4 listed
   exact wp_mw _ rfl q39 (hK _ _ (hJ.nx hls hT rfl rfl (SA2.plain hJ.st (Ex.refl _) 4 (by decide)) hord))
  ·refine ifp (wanted_of rfl rfl rfl (hJ.is hT (hdep ⟨4, .guard⟩ (by simp) rfl) rfl _ rfl _ rfl)) fun K hK => ?_
   have q7 := hout 7 ob
   have hord := nil_ord 5 listed
   exact wp_mw _ rfl q7 (hK _ _ (hJ.nx hls hT rfl rfl (SA2.plain hJ.st (Ex.refl _) 5 (by decide)) hord))
  ·refine ifp (wanted_of rfl rfl rfl (hJ.is hT (hdep ⟨4, .guard⟩ (by simp) rfl) rfl _ rfl _ rfl)) fun K hK => ?_
   have q9 := hout 9 ob
   have hord := nil_ord 6 listed
   rw [gd9] at q9
   clear hsz hdep hout hlat
   go_simp
   exact hK _ _ (hJ.nx hls hT rfl rfl (SA2.plain hJ.st (Ex.refl _) 6 (by decide)) hord)
  ·refine ifp (wanted_of rfl rfl rfl (hJ.is hT (hdep ⟨4, .guard⟩ (by simp) rfl) rfl _ rfl _ rfl)) fun K hK => ?_
   have q42 := hJ.is hT (hdep ⟨6, .data⟩ (by simp) rfl) rfl _ rfl _ rfl
   have hord := nil_ord 7 listed
   have cc : w6.cell? ⟨g, 1, none⟩ = some (.int .u64 q.ep) := ((HG.out.ext hJ.st.ex).cell 1).trans rfl
   rw [gd9] at q42
   clear hsz hdep hout hlat
   go_simp
   exact hK _ _ (hJ.nx hls hT rfl rfl (SA2.plain hJ.st (Ex.refl _) 7 (by decide)) hord)
  ·refine ifp (wanted_of rfl rfl rfl (hJ.is hT (hdep ⟨4, .guard⟩ (by simp) rfl) rfl _ rfl _ rfl)) fun K hK => ?_
   have q41 := hJ.is hT (hdep ⟨5, .data⟩ (by simp) rfl) rfl _ rfl _ rfl
   have q43 := hJ.is hT (hdep ⟨7, .data⟩ (by simp) rfl) rfl _ rfl _ rfl
   have hord := nil_ord 8 listed
   rw [gd9] at q41
   rw [gd9] at q43
   clear hsz hdep hout hlat
   go_simp
   exact hK _ _ (hJ.nx hls hT rfl (by first | rfl | exact congrArg (Value.int .i64) (by omega) | exact congrArg (Value.int .i64) (by rw [IntKind.wrap_i64]; omega) | exact congrArg Value.bool (decide_eq_false (by omega)) | exact congrArg Value.bool (decide_eq_true (by omega)) | exact congrArg (Value.int .u64) (by omega)) (SA2.plain hJ.st (Ex.refl _) 8 (by decide)) hord)
  ·have q40 := hJ.is hT (hdep ⟨4, .data⟩ (by simp) rfl) rfl _ rfl _ rfl
   have q44 := hJ.is hT (hdep ⟨8, .data⟩ (by simp) rfl) rfl _ rfl _ rfl
   have hord := nil_ord 9 listed
   rw [gd9] at q40
   rw [gd9] at q44
   clear hsz hdep hout hlat
   go_simp
   exact hK _ _ (hJ.nx hls hT rfl rfl (SA2.plain hJ.st (Ex.refl _) 9 (by decide)) hord)
  ·have q45 := hJ.is hT (hdep ⟨9, .data⟩ (by simp) rfl) rfl _ rfl _ rfl
   have hord := nil_ord 10 listed
   exact wp_mw _ rfl q45 (hK _ _ (hJ.nx hls hT rfl rfl (SA2.plain hJ.st (Ex.refl _) 10 (by decide)) hord))
  ·refine ifp (wanted_of rfl rfl rfl (hJ.is hT (hdep ⟨10, .guard⟩ (by simp) rfl) rfl _ rfl _ rfl)) fun K hK => ?_
   have q8 := hout 8 ob
   have hord := nil_ord 11 listed
   exact wp_mw _ rfl q8 (hK _ _ (hJ.nx hls hT rfl rfl (SA2.plain hJ.st (Ex.refl _) 11 (by decide)) hord))
  ·refine ifp (wanted_of rfl rfl rfl (hJ.is hT (hdep ⟨10, .guard⟩ (by simp) rfl) rfl _ rfl _ rfl)) fun K hK => ?_
   have q9 := hout 9 ob
   have hord := nil_ord 12 listed
   rw [gd9] at q9
   clear hsz hdep hout hlat
   go_simp
   exact hK _ _ (hJ.nx hls hT rfl rfl (SA2.plain hJ.st (Ex.refl _) 12 (by decide)) hord)
  ·refine ifp (wanted_of rfl rfl rfl (hJ.is hT (hdep ⟨10, .guard⟩ (by simp) rfl) rfl _ rfl _ rfl)) fun K hK => ?_
   have q48 := hJ.is hT (hdep ⟨12, .data⟩ (by simp) rfl) rfl _ rfl _ rfl
   have hord := nil_ord 13 listed
   have cc : w6.cell? ⟨g, 2, none⟩ = some (.int .i64 q.tw) := ((HG.out.ext hJ.st.ex).cell 2).trans rfl
   rw [gd9] at q48
   clear hsz hdep hout hlat
   go_simp
   exact hK _ _ (hJ.nx hls hT rfl rfl (SA2.plain hJ.st (Ex.refl _) 13 (by decide)) hord)
  ·refine ifp (wanted_of rfl rfl rfl (hJ.is hT (hdep ⟨10, .guard⟩ (by simp) rfl) rfl _ rfl _ rfl)) fun K hK => ?_
   have q47 := hJ.is hT (hdep ⟨11, .data⟩ (by simp) rfl) rfl _ rfl _ rfl
   have q49 := hJ.is hT (hdep ⟨13, .data⟩ (by simp) rfl) rfl _ rfl _ rfl
   have hord := nil_ord 14 listed
   rw [gd9] at q47
   rw [gd9] at q49
   clear hsz hdep hout hlat
   go_simp
   exact hK _ _ (hJ.nx hls hT rfl (by first | rfl | exact congrArg (Value.int .i64) (by omega) | exact congrArg (Value.int .i64) (by rw [IntKind.wrap_i64]; omega) | exact congrArg Value.bool (decide_eq_false (by omega)) | exact congrArg Value.bool (decide_eq_true (by omega)) | exact congrArg (Value.int .u64) (by omega)) (SA2.plain hJ.st (Ex.refl _) 14 (by decide)) hord)
  ·have q46 := hJ.is hT (hdep ⟨10, .data⟩ (by simp) rfl) rfl _ rfl _ rfl
   have q50 := hJ.is hT (hdep ⟨14, .data⟩ (by simp) rfl) rfl _ rfl _ rfl
   have hord := nil_ord 15 listed
   rw [gd9] at q46
   rw [gd9] at q50
   clear hsz hdep hout hlat
   go_simp
   exact hK _ _ (hJ.nx hls hT rfl rfl (SA2.plain hJ.st (Ex.refl _) 15 (by decide)) hord)
  ·have q51 := hJ.is hT (hdep ⟨15, .data⟩ (by simp) rfl) rfl _ rfl _ rfl
   have hord := nil_ord 16 listed
   exact wp_mw _ rfl q51 (hK _ _ (hJ.nx hls hT rfl rfl (SA2.plain hJ.st (Ex.refl _) 16 (by decide)) hord))
  ·refine ifp (wanted_of rfl rfl rfl (hJ.is hT (hdep ⟨16, .guard⟩ (by simp) rfl) rfl _ rfl _ rfl)) fun K hK => ?_
   have q0 := hout 0 ob
   have hord := nil_ord 17 listed
   exact wp_mw _ rfl q0 (hK _ _ (hJ.nx hls hT rfl rfl (SA2.plain hJ.st (Ex.refl _) 17 (by decide)) hord))
  ·refine ifp (wanted_of rfl rfl rfl (hJ.is hT (hdep ⟨16, .guard⟩ (by simp) rfl) rfl _ rfl _ rfl)) fun K hK => ?_
   have q5 := hout 5 ob
   have hord := nil_ord 18 listed
   exact wp_mw _ rfl q5 (hK _ _ (hJ.nx hls hT rfl rfl (SA2.plain hJ.st (Ex.refl _) 18 (by decide)) hord))
  ·refine ifp (wanted_of rfl rfl rfl (hJ.is hT (hdep ⟨16, .guard⟩ (by simp) rfl) rfl _ rfl _ rfl)) fun K hK => ?_
   have q53 := hJ.is hT (hdep ⟨17, .data⟩ (by simp) rfl) rfl _ rfl _ rfl
   have q54 := hJ.is hT (hdep ⟨18, .data⟩ (by simp) rfl) rfl _ rfl _ rfl
   have hord := nil_ord 19 listed
   have hst := hJ.st
   rw [gd9] at q53
   rw [gd9] at q54
   clear hsz hdep hout hlat
   go_simp
   refine (svaults_int B M m n p D r v k w6 (HS.out.ext (Ex.trans BX.out hst.ex))).mono ?_
   rintro e wq ⟨v9, ys, rfl, a1, a2, x4⟩
   exact hK _ _ (hJ.nx hls hT rfl (by exact trivial) (SA2.sa hst x4 (by decide) ⟨ys, a1.less hst.ex.sz', a2⟩) hord)
  ·refine ifp (wanted_of rfl rfl rfl (hJ.is hT (hdep ⟨16, .guard⟩ (by simp) rfl) rfl _ rfl _ rfl)) fun K hK => ?_
   have q9 := hout 9 ob
   have hord := nil_ord 20 listed
   rw [gd9] at q9
   clear hsz hdep hout hlat
   go_simp
   exact hK _ _ (hJ.nx hls hT rfl rfl (SA2.plain hJ.st (Ex.refl _) 20 (by decide)) hord)
  ·refine ifp (wanted_of rfl rfl rfl (hJ.is hT (hdep ⟨16, .guard⟩ (by simp) rfl) rfl _ rfl _ rfl)) fun K hK => ?_
   have q56 := hJ.is hT (hdep ⟨20, .data⟩ (by simp) rfl) rfl _ rfl _ rfl
   have hord := nil_ord 21 listed
   have cc : w6.cell? ⟨g, 3, none⟩ = some (.slice ad nn cap) := ((HG.out.ext hJ.st.ex).cell 3).trans rfl
   rw [gd9] at q56
   clear hsz hdep hout hlat
   go_simp
   exact hK _ _ (hJ.nx hls hT rfl rfl (SA2.plain hJ.st (Ex.refl _) 21 (by decide)) hord)
  ·refine ifp (wanted_of rfl rfl rfl (hJ.is hT (hdep ⟨16, .guard⟩ (by simp) rfl) rfl _ rfl _ rfl)) fun K hK => ?_
   have dd55 := hdep ⟨19, .data⟩ (by simp) rfl
   have q55 := dd55.2 _ rfl _ rfl
   have q57 := hJ.is hT (hdep ⟨21, .data⟩ (by simp) rfl) rfl _ rfl _ rfl
   have hord := nil_ord 22 listed
   have hst := hJ.st
   have hl19 := (hdep ⟨19, .data⟩ (by simp) rfl).1
   obtain ⟨y1, r1, e1⟩ := hst.a hl19
   obtain ⟨ad1, cap1, f1, in1, c1⟩ := r1.inn3
   rw [f1] at q55
   rw [gd9] at q55
   rw [gd9] at q57
   clear hsz hdep hout hlat
   go_simp
   rw [HN.out]
   refine (rvs_any ad1 ad cap1 cap y1 zs c1 z4 w6 in1 (ZI4.out.ext hst.ex) (fun i x hx => (r1.ins i x hx).vi) (fun i x hx => (ZV4.out i x hx).ext hst.ex)).mono ?_
   rintro e wq ⟨rfl, x4⟩
   rw [decide_eq_true (show y1.map Vt.ct = zs.map Vt.ct from e1.trans CC.out)]
   exact hK _ _ (hJ.nx hls hT rfl rfl (SA2.plain hst x4 22 (by decide)) hord)
  ·refine ifp (wanted_of rfl rfl rfl (hJ.is hT (hdep ⟨16, .guard⟩ (by simp) rfl) rfl _ rfl _ rfl)) fun K hK => ?_
   have q58 := hJ.is hT (hdep ⟨22, .data⟩ (by simp) rfl) rfl _ rfl _ rfl
   have hord := nil_ord 23 listed
   rw [gd9] at q58
   clear hsz hdep hout hlat
   go_simp
   exact hK _ _ (hJ.nx hls hT rfl rfl (SA2.plain hJ.st (Ex.refl _) 23 (by decide)) hord)
  have q52 := hJ.is hT (hdep ⟨16, .data⟩ (by simp) rfl) rfl _ rfl _ rfl
  have q59 := hJ.is hT (hdep ⟨23, .data⟩ (by simp) rfl) rfl _ rfl _ rfl
  have hord := nil_ord 24 listed
  rw [gd9] at q52
  rw [gd9] at q59
  clear hsz hdep hout hlat
  go_simp
  exact hK _ _ (hJ.nx hls hT rfl rfl (SA2.plain hJ.st (Ex.refl _) 24 (by decide)) hord)
 intro listed f w6 hall hJ
 have f24 := hJ.fa hT (hall 24 (by simp)) rfl
 have hst := hJ.st
 simp only [putAll, Act.put, List.setIfInBounds_toArray, List.set_cons_zero, List.set_cons_succ, Nat.zero_add, Nat.reduceAdd]
 have xx := hst.ex
 replace BX := Hi (Ex.trans BX.out xx)
 clear xx HG
 rw [f24]
 clear f24
 clear hJ hall hT
 clear hst hS0
 go_wp2_with fail
 (first | (refine ⟨?_, ?measure⟩; (repeat apply Exists.intro); refine ⟨?rel, rfl⟩) | refine ⟨?rel, ?measure⟩)
 case rel => exact ⟨k + 1, by omega, by omega, by go_num, BX⟩
 case measure => simp [intOf]; omega
section
variable {o : Oper} {a : Act} {w : World} {K : Act → World → Prop} {Q : Exit → Act → World → Prop}
theorem ld_awb (x : Operand) (g : Nat) (v : Aw) (ho : o.op = .load 41 x) (ha : a.eval x = .pointer (some ⟨g, 0, none⟩)) (h : AwB w g v) (hk : K (a.put o.dst v.V) w) : o.wp Try.prog a w K Q := by
 obtain ⟨dd, hd⟩ : ∃ d, Try.prog.underlying 41 = some d ∧ d.isRow = true := ⟨_, Try.underlying41, rfl⟩
 exact wp_ldp (C := v.C) v.C x g 0 dd ho ha h.2 (by rw [List.drop_zero, List.take_length]) hd.1 hd.2 (by rw [Try.sizeAw, Aw.len h.1]) hk
theorem st_aw (x y : Operand) (g : Nat) (v : Aw) (ho : o.op = .store 41 x y) (ha : a.eval x = .pointer (some ⟨g, 0, none⟩)) (hy : a.eval y = .agg v.C.toArray) (hv : v.raw.v.Ok) {Y : Array Value} (hB : Bk w g 41 Y) (hY : Y.size = 64) (hk : ∀ w', AwB w' g v → Only g w w' → K (a.put o.dst undef) w') : o.wp Try.prog a w K Q := by
 have hB' : Bk w g 41 Y.toList.toArray := by simpa using hB
 refine wp_stp v.C x y g 0 ho ha hy hB' (by rw [Aw.len hv]; simp [hY]) (by rw [Try.sizeAw, Aw.len hv]) (all_oneCell_toArray (Aw.C_one v)) (fun w' h1 h2 => hk w' ⟨hv, ?_⟩ h2)
 have e : Y.toList.take 0 ++ v.C ++ Y.toList.drop (0 + v.C.length) = v.C := by
  rw [List.take_zero, List.nil_append, List.drop_eq_nil_of_le (by rw [Aw.len hv]; simp [hY]), List.append_nil]
 rw [e] at h1; exact h1
end
theorem got_eq {vs xs : List Vt} {role : Int} {id : List UInt8} {c : Vc} {b b2 : Bool} {x : Vt} (he : vs.map Vt.ct = xs.map Vt.ct) (h0 : role = 0 → vs = []) (hs : ∀ i j, i < j → j < vs.length → idF vs i < idF vs j) (hid : id.length = 4) (hok : ∀ y ∈ vs, y.id.length = 4) (hd : GetDet vs (idn id) c b) (hg : RGot role xs id x b2) : b2 = b ∧ x.ct = c := by
 rcases hg with ⟨rfl, rfl, hno⟩ | ⟨rfl, hr, j, hj, hjd⟩
 ·have hb : b = false := by
   cases hb : b with
   | false => rfl
   | true =>
    obtain ⟨q, y, hq, hi, _⟩ := hd.2.1 hb
    have hy := List.mem_of_getElem? hq
    rw [idF_at _ _ _ hq] at hi
    have hyi : y.id = id := idn_inj (hok y hy) hid hi
    rcases hno with hz | hno
    ·rw [h0 hz] at hy; cases hy
    ·have hc : y.ct ∈ xs.map Vt.ct := by rw [← he]; exact List.mem_map.2 ⟨y, hy, rfl⟩
     obtain ⟨z, hz, hzc⟩ := List.mem_map.1 hc
     exact absurd ((congrArg Vc.id hzc).trans hyi) (hno z hz)
  exact ⟨hb.symm, (hd.2.2 hb).symm⟩
 have hjl : j < xs.length := (List.getElem?_eq_some_iff.1 hj).1
 have hl : vs.length = xs.length := by have := congrArg List.length he; simpa using this
 obtain ⟨y, hy⟩ : ∃ y, vs[j]? = some y := ⟨_, List.getElem?_eq_getElem (by omega)⟩
 have hyc : y.ct = x.ct := by
  have h1 : (vs.map Vt.ct)[j]? = some y.ct := by rw [List.getElem?_map, hy]; rfl
  rw [he, List.getElem?_map, hj] at h1
  exact (Option.some.inj h1).symm
 have hyi : idF vs j = idn id := by rw [idF_at _ _ _ hy, show y.id = x.id from congrArg Vc.id hyc, hjd]
 have hb : b = true := by rw [hd.1]; exact decide_eq_true ⟨j, by omega, hyi⟩
 obtain ⟨q, y2, hq, hi, hc⟩ := hd.2.1 hb
 have hql : q < vs.length := (List.getElem?_eq_some_iff.1 hq).1
 have hqj : q = j := by
  rcases Nat.lt_trichotomy q j with h | h | h
  ·have := hs q j h (by omega); omega
  ·exact h
  ·have := hs j q h hql; omega
 subst hqj
 rw [hy] at hq
 cases hq
 exact ⟨hb.symm, by rw [hc, hyc]⟩
section
variable {w0 w w' w'' : World} {B M : Nat} {m n : Int} {D : Nat → Nat} {M2 : Nat} {p : Nat → Pa} {r : Nat → Value} {v : Nat → List Vt} {R : Nat → Value} {xs : Nat → List Vt}
theorem EI.got (h : EI w0 w B M m n D M2 p r v R xs) {s : Nat} (hs : s < 16) {id : List UInt8} (hid : id.length = 4) {c : Vc} {b b2 : Bool} {x : Vt} (hd : GetDet (v s) (idn id) c b) (hg : RGot (p s).role (xs s) id x b2) : b2 = b ∧ x.ct = c :=
 got_eq (h.eq s hs) (fun h0 => List.map_eq_nil_iff.1 ((h.wf s hs).2.1 h0)) (h.s.ts.tb s hs).srt hid (fun y hy => ((h.s.ts.tb s hs).row.mem hy).ok.idN) hd hg
theorem EI.copy (h : EI w0 w B M m n D M2 p r v R xs) {Mc : Nat} {Dc : Nat → Nat} {rc : Nat → Value} {vc : Nat → List Vt} (hc : SS w' w.heap.size Mc m n p Dc rc vc) (hM : w.heap.size ≤ Mc) (hv : ∀ i, i < 16 → (vc i).map Vt.ct = (v i).map Vt.ct) (k : Ex w w') (k2 : Ex w' w'') {w3 : World} (fr : SFr M D r w'' w3) : EI w0 w3 w.heap.size Mc m n Dc M2 p rc vc R xs := by
 have hne : M ≠ Mc := fun e => by have := h.s.blk.lt; omega
 have hs := (h.s.ext k).ext k2
 refine ⟨fr.ss hs (hc.ext k2) hne (apart9 h.s hc (Nat.le_refl _)), fr.rs hs h.lo.1 h.lo.2 ((h.f.ext k).ext k2) h.dj, fun j hj i hi g h1 h2 => ?_, fun i hi => (hv i hi).trans (h.eq i hi), fun i hi => ?_, fr.ex hs h.lo.1 h.lo.2 (Ex.trans (Ex.trans h.ex k) k2), Nat.le_trans (Below.size h.ex) hM, Below.size h.ex⟩
 ·have h3 := ((h.f.rw j hj).row.lt g h1).2
  have h4 := ((hc.ts.tb i hi).row.row.lt g h2).1
  have h5 := hc.ts.lo i hi
  omega
 have h9 := h.wf i hi
 rw [show ctF vc i = ctF v i from hv i hi]; exact h9
theorem EI.set (h : EI w0 w B M m n D M2 p r v R xs) {s : Nat} (hs : s < 16) {q : Pa} (hq : q.Ok) {ys zs : List Vt} (hp : setP m n s q ys) (hz : zs.map Vt.ct = ys.map Vt.ct) (hf : RAF w0 M2 m n p R xs s q ys w w') {D9 : Nat} {rv : Value} (hs9 : SS w'' B M m n (updF p s q) (updF D s D9) (updF r s rv) (updF v s zs)) (hm : Md M w' w'') (hD : w'.heap.size ≤ D9) (hr : ∀ g, rv.ownBlock = some g → w'.heap.size ≤ g) : ∃ v9, EI w0 w'' B M m n (updF D s D9) M2 (updF p s q) (updF r s rv) (updF v s zs) (updF R s v9) (updF xs s ys) := by
 obtain ⟨v9, hf1, kt, hl⟩ := hf
 have hs1 := h.s.kts kt (by decide) (by decide) (by decide) (by decide)
 have dj1 : ∀ j, j < 16 → ∀ i, i < 16 → Djn (updF R s v9 j) (r i) := fun j hj i hi => by
  by_cases e : j = s
  ·rw [e, updF_same]
   rcases hl with hl | hl
   ·rw [hl]; exact h.dj s hs i hi
   ·intro g h1 h2
    have h3 := hl g h1
    have h4 := ((h.s.ts.tb i hi).row.row.lt g h2).2
    omega
  ·rw [updF_ne _ _ e]; exact h.dj j hj i hi
 have fr : SFr M D r w' w'' := Md.sfr hm
 refine ⟨v9, hs9, fr.rs hs1 h.lo.1 h.lo.2 hf1 dj1, fun j hj i hi => ?_, fun i hi => ?_, fun i hi => ?_, fr.ex hs1 h.lo.1 h.lo.2 (Below.trans h.ex kt.below), h.lo⟩
 ·by_cases e : i = s
  ·rw [e, updF_same]
   intro g h1 h2
   have h3 := ((hf1.rw j hj).row.lt g h1).2
   have h4 := hr g h2
   omega
  rw [updF_ne _ _ e]; exact dj1 j hj i hi
 ·by_cases e : i = s
  ·rw [e]; unfold ctF; rw [updF_same, updF_same]; exact hz
  unfold ctF; rw [updF_ne _ _ e, updF_ne _ _ e]; exact h.eq i hi
 by_cases e : i = s
 ·rw [e]; unfold ctF; rw [updF_same, updF_same, hz]
  refine ⟨fun c hc => ?_, fun h0 => ?_, hq⟩
  ·obtain ⟨y, hy, rfl⟩ := List.mem_map.1 hc
   obtain ⟨i9, hi9, e8⟩ := List.getElem_of_mem hy
   exact hp.2.2.2.2.2.1 i9 y (by rw [List.getElem?_eq_getElem hi9, e8])
  rcases hp.2.2.1 with ⟨_, _, hl0⟩ | ⟨h1, _⟩ | ⟨h2, _⟩
  ·rw [List.length_eq_zero_iff.1 hl0]; rfl
  ·omega
  omega
 unfold ctF; rw [updF_ne _ _ e, updF_ne _ _ e]; exact h.wf i hi
end
structure SQ9 (w0 : World) (P : Pa → Prop) (l : Array Bool) (f : Nat → Value) (w : World) : Prop where
 ex : Ex w0 w
 row : l.getD 20 false = true → ∃ (ad : Option Addr) (cap : Nat) (ys : List Vt), f 20 = .slice ad ys.length cap ∧ VRow w w0.heap.size (f 20) ys ∧ ys.length ≤ 4
 bld : l.getD 21 false = true → l.getD 20 false = true ∧ ∃ q, P q ∧ f 21 = .agg (partR q (f 20)).toArray
 e22 : l.getD 22 false = true → l.getD 23 false = false → ∃ g z, f 22 = .pointer (some ⟨g, 0, none⟩) ∧ w0.heap.size ≤ g ∧ z.size = 4 ∧ Bk w g 105 z
 e23 : l.getD 23 false = true → l.getD 22 false = true ∧ l.getD 20 false = true ∧ ∃ q g, P q ∧ f 22 = .pointer (some ⟨g, 0, none⟩) ∧ w0.heap.size ≤ g ∧ Bk w g 105 (partR q (f 20)).toArray
section
variable {w0 w w' : World} {P : Pa → Prop} {l : Array Bool} {f : Nat → Value} {x : Value}
theorem SQ9.start (h0 : ∀ i, l.getD i false = false) (hx : Ex w0 w) : SQ9 w0 P l f w := ⟨hx, (fun a => by rw [h0] at a; cases a), (fun a => by rw [h0] at a; cases a), (fun a => by rw [h0] at a; cases a), (fun a => by rw [h0] at a; cases a)⟩
theorem SQ9.plain (h : SQ9 w0 P l f w) (kx : Ex w w') (i : Nat) (hi : i ≠ 20 ∧ i ≠ 21 ∧ i ≠ 22 ∧ i ≠ 23) : SQ9 w0 P (l.setIfInBounds i true) (upd f i x) w' := by
 obtain ⟨n20, n21, n22, n23⟩ := hi
 have u20 := upd_ne f x (Ne.symm n20)
 have u21 := upd_ne f x (Ne.symm n21)
 have u22 := upd_ne f x (Ne.symm n22)
 refine ⟨Ex.trans h.ex kx, fun a => ?_, fun a => ?_, fun a b => ?_, fun a => ?_⟩
 ·rw [gset n20 false] at a; rw [u20]
  obtain ⟨ad, cap, ys, h1, h2, h3⟩ := h.row a
  exact ⟨ad, cap, ys, h1, h2.ext kx, h3⟩
 ·rw [gset n21 false] at a; rw [gset n20 false, u20, u21]; exact h.bld a
 ·rw [gset n22 false] at a; rw [gset n23 false] at b; rw [u22]
  obtain ⟨g, z, h1, h2, h3, h4⟩ := h.e22 a b
  exact ⟨g, z, h1, h2, h3, h4.ext kx⟩
 rw [gset n23 false] at a; rw [gset n22 false, gset n20 false, u22, u20]
 obtain ⟨h1, h2, q, g, hq, h3, h4, h5⟩ := h.e23 a
 exact ⟨h1, h2, q, g, hq, h3, h4, h5.ext kx⟩
theorem SQ9.s20 (h : SQ9 w0 P l f w) (hun : l.getD 20 false = false) (kx : Ex w w') (hr : ∃ (ad : Option Addr) (cap : Nat) (ys : List Vt), x = .slice ad ys.length cap ∧ VRow w' w0.heap.size x ys ∧ ys.length ≤ 4) : SQ9 w0 P (l.setIfInBounds 20 true) (upd f 20 x) w' := by
 refine ⟨Ex.trans h.ex kx, fun _ => ?_, fun a => ?_, fun a b => ?_, fun a => ?_⟩
 ·rw [upd_same]; exact hr
 ·rw [gset (by decide) false] at a; have h1 := (h.bld a).1; rw [hun] at h1; cases h1
 ·rw [gset (by decide) false] at a b; rw [upd_ne _ _ (by decide)]
  obtain ⟨g, z, h1, h2, h3, h4⟩ := h.e22 a b
  exact ⟨g, z, h1, h2, h3, h4.ext kx⟩
 rw [gset (by decide) false] at a; have h1 := (h.e23 a).2.1; rw [hun] at h1; cases h1
theorem SQ9.s21 (h : SQ9 w0 P l f w) (h20 : l.getD 20 false = true) {q : Pa} (hq : P q) (hx : x = .agg (partR q (f 20)).toArray) : SQ9 w0 P (l.setIfInBounds 21 true) (upd f 21 x) w := by
 refine ⟨h.ex, fun a => ?_, fun _ => ?_, fun a b => ?_, fun a => ?_⟩
 ·rw [gset (by decide) false] at a; rw [upd_ne _ _ (by decide)]; exact h.row a
 ·rw [gset (by decide) false, upd_same, upd_ne _ _ (by decide)]; exact ⟨h20, q, hq, hx⟩
 ·rw [gset (by decide) false] at a b; rw [upd_ne _ _ (by decide)]; exact h.e22 a b
 rw [gset (by decide) false] at a; rw [gset (by decide) false, gset (by decide) false, upd_ne _ _ (by decide), upd_ne _ _ (by decide)]; exact h.e23 a
theorem SQ9.s22 (h : SQ9 w0 P l f w) (hun : l.getD 22 false = false) (kx : Ex w w') {z : Array Value} (hz : z.size = 4) (hx : x = .pointer (some ⟨w.heap.size, 0, none⟩)) (hb : Bk w' w.heap.size 105 z) : SQ9 w0 P (l.setIfInBounds 22 true) (upd f 22 x) w' := by
 refine ⟨Ex.trans h.ex kx, fun a => ?_, fun a => ?_, fun _ _ => ?_, fun a => ?_⟩
 ·rw [gset (by decide) false] at a; rw [upd_ne _ _ (by decide)]
  obtain ⟨ad, cap, ys, h1, h2, h3⟩ := h.row a
  exact ⟨ad, cap, ys, h1, h2.ext kx, h3⟩
 ·rw [gset (by decide) false] at a; rw [gset (by decide) false, upd_ne _ _ (by decide), upd_ne _ _ (by decide)]; exact h.bld a
 ·rw [upd_same]; exact ⟨w.heap.size, z, hx, Below.size h.ex, hz, hb⟩
 rw [gset (by decide) false] at a; have h1 := (h.e23 a).1; rw [hun] at h1; cases h1
theorem SQ9.s23 (h : SQ9 w0 P l f w) (hl : 23 < l.size) (h20 : l.getD 20 false = true) (h22 : l.getD 22 false = true) {g : Nat} (hg : f 22 = .pointer (some ⟨g, 0, none⟩)) (hge : w0.heap.size ≤ g) {z : Array Value} (hz : Bk w g 105 z) (ho : Only g w w') {q : Pa} (hq : P q) (hb : Bk w' g 105 (partR q (f 20)).toArray) : SQ9 w0 P (l.setIfInBounds 23 true) (upd f 23 x) w' := by
 have kt : Kt [105] 0 w w' := Kt.md ho.md (Nat.zero_le _) hz (List.mem_singleton.2 rfl)
 refine ⟨ho.below w0.heap.size hge w0 h.ex, fun a => ?_, fun a => ?_, fun _ b => ?_, fun _ => ?_⟩
 ·rw [gset (by decide) false] at a; rw [upd_ne _ _ (by decide)]
  obtain ⟨ad, cap, ys, h1, h2, h3⟩ := h.row a
  exact ⟨ad, cap, ys, h1, ⟨kt.row h2.row (by decide), fun i y hy => (h2.ins i y hy).kt kt (by decide)⟩, h3⟩
 ·rw [gset (by decide) false] at a; rw [gset (by decide) false, upd_ne _ _ (by decide), upd_ne _ _ (by decide)]; exact h.bld a
 ·rw [set_new hl] at b; cases b
 rw [gset (by decide) false, gset (by decide) false, upd_ne _ _ (by decide), upd_ne _ _ (by decide)]; exact ⟨h22, h20, q, g, hq, hg, hge, hb⟩
end
theorem built_rp4 (a c t : Int) (ad : Option Addr) (n k : Nat) : Try.prog.built 105 [(0, .int .i64 a), (1, .int .u64 c), (2, .int .i64 t), (3, .slice ad n k)] = some (partR ⟨a, c, t⟩ (.slice ad n k)).toArray := by kernel_rfl
theorem wrapi_in (n : Int) : i64 (IntKind.i64.wrap n) := by unfold i64; rw [IntKind.wrap_i64]; omega
abbrev L5 : List Nat := [41, 1000 + 41, 39, 1000 + 39, 105, 30, 32, 36, 1000 + 36]
theorem bits_in (b : BinOp) (x y : Int) : i64 (bits b .i64 x y) := by unfold bits; exact wrapi_in _
theorem within_any2 (c lo hi : Int) (hc : i64 c) (h0 : -1 ≤ lo) (h1 : lo ≤ hi) (h2 : hi ≤ 10000000) (w : World) : Calls Try.prog 20 #[.int .i64 c, .int .i64 lo, .int .i64 hi] w fun e w' => (∃ k : Int, e = .returned (.int .i64 k) ∧ lo ≤ k ∧ k ≤ hi) ∧ w = w' :=
 (within_any c lo hi ⟨hc.1, hc.2⟩ h0 h1 h2 w).mono fun _ _ ⟨k, e, a, b, x⟩ => ⟨⟨k, e, a, b⟩, x⟩
theorem play16 (m n : Int) (hm : i64 m) (hn9 : i64 n) (ad : Option Addr) (cap : Nat) (l : List Aw) (w : World) (hL : l.length ≤ 9223372036854775807) (hin : Awp.In ad cap l w) : Calls Try.prog 15 #[.int .i64 m, .int .i64 n, .slice ad l.length cap] w fun e w' => e = .returned (.bool true) ∧ Ex w w' := by
 obtain ⟨nn, hn⟩ : ∃ n, n = l.length := ⟨_, rfl⟩
 have HN := Hi hn
 have HIN := Hi hin
 rw [← hn] at hL ⊢
 clear hn hin
 by_cases hg : 1 ≤ n ∧ n ≤ 8 ∧ 0 ≤ m ∧ m < n
 rotate_left
 ·have HGD := Hi hg
  clear hg
  go_enter Try.func15, Try.ntmps15
  go_wp2_with fail
  refine (snew_bad m n w HGD.out).mono ?_
  rintro e w1 ⟨rfl, rfl⟩
  go_wp2_with fail
  refine (rnew_bad m n w HGD.out).mono ?_
  rintro e w2 ⟨rfl, rfl⟩
  go_wp2_with fail
  go_loopw [7, 9] (fun s i wr => s = .pointer none ∧ i = .int .i64 (0 : Nat) ∧ Hid (Ex w wr)) (fun _ i _ => 0)
  case atStart => exact ⟨rfl, rfl, Hi (Ex.refl _)⟩
  obtain ⟨rfl, rfl, BX⟩ := hrel
  by_cases h0 : 0 < nn
  ·have q1 : ((0 : Nat) : Int) < (nn : Int) := by omega
   go_wp2_with fail
   go_ret
   exact ⟨rfl, BX.out⟩
  have q1 : ¬ ((0 : Nat) : Int) < (nn : Int) := by omega
  go_wp2_with fail
  go_ret
  exact ⟨rfl, BX.out⟩
 have hn1 := hg.1
 have hn8 := hg.2.1
 have HGD := Hi hg
 clear hg
 go_enter Try.func15, Try.ntmps15
 go_wp2_with fail
 refine (snew_any m n w HGD.out).mono ?_
 rintro e w1 ⟨M0, D0, r0, v0, rfl, hs, hM, hv, x1⟩
 have HS := Hi (And.intro hs (And.intro hM (And.intro hv x1)))
 clear hs hM hv x1
 go_wp2_with fail
 refine (rnew_any m n w1 HGD.out).mono ?_
 rintro e w2 ⟨M2, rfl, hf, x2⟩
 have HE := Hi (ei_new HS.out.1 HS.out.2.1 HS.out.2.2.1 HS.out.2.2.2 hf x2)
 clear HS hf x2 HGD
 go_wp2_with fail
 go_loopw [7, 9] (fun s i wr => ∃ (k B M : Nat) (D : Nat → Nat) (p : Nat → Pa) (r : Nat → Value) (v : Nat → List Vt) (R : Nat → Value) (xs : Nat → List Vt), k ≤ nn ∧ k ≤ 60 ∧ s = .pointer (some ⟨M, 0, none⟩) ∧ i = .int .i64 k ∧ Hid (EI w wr B M m n D M2 p r v R xs)) (fun _ i _ => nn - (intOf i).toNat)
 case atStart => exact ⟨0, w.heap.size, M0, D0, newP m n, r0, v0, _, _, by omega, by omega, rfl, rfl, HE⟩
 clear HE
 rename World => wo
 obtain ⟨k, B, M, D, p, r, v, R, xs, hk, hk60, rfl, rfl, HE⟩ := hrel
 by_cases hlt : k < nn
 rotate_left
 ·obtain rfl : k = nn := by omega
  have q1 : ¬ (k : Int) < (k : Int) := by omega
  go_wp2_with fail
  go_ret
  exact ⟨rfl, HE.out.ex⟩
 by_cases h60 : k < 60
 rotate_left
 ·obtain rfl : k = 60 := by omega
  have q1 : (60 : Int) < (nn : Int) := by omega
  go_wp2_with fail
  go_ret
  exact ⟨rfl, HE.out.ex⟩
 have q0 : (0 : Int) ≤ (k : Int) := by omega
 have q1 : (k : Int) < (nn : Int) := by omega
 have q2 : (k : Int) < 60 := by omega
 obtain ⟨ab, o, rfl, hab, hra⟩ := (HIN.out.ext HE.out.ex).read (by rw [← HN.out]; omega)
 obtain ⟨y, hy⟩ : ∃ z, l[k]? = some z := ⟨_, List.getElem?_eq_getElem (by rw [← HN.out]; exact hlt)⟩
 have YI := Hi (HIN.out.ins k y hy)
 have YR : Hid (wo.rangeAt ab (o + k * 64) y.C) := Hi (hra k y hy)
 clear hra hab
 go_wp2_with ((with_reducible refine so4 L5 ?_ ?_); (focus rfl))
 refine at9 (by go_simp) fun K0 hK => ld_aw _ ab (o + k * 64) y YI.out.raw.v.ok rfl rfl YR.out (hK _ _ ?_)
 clear hK
 go_wp2_with ((with_reducible refine so4 L5 ?_ ?_); (focus rfl))
 refine at9 (by go_simp) fun K0 hK => st_aw _ _ wo.heap.size y rfl rfl rfl YI.out.raw.v.ok (Bk.new rfl _ _) (by rfl) (fun w3 hd ho => hK _ _ ?_)
 clear hK
 have x3 : Ex wo w3 := ho.below wo.heap.size (Nat.le_refl _) wo (Ex.alloc wo _)
 obtain ⟨g, hg⟩ : ∃ g, g = wo.heap.size := ⟨_, rfl⟩
 rw [← hg] at hd ⊢
 have HG := Hi hd
 have E3 := Hi (HE.out.ext x3)
 clear hd ho hg x3 YR HE
 have c0 := HG.out.cells.1
 obtain ⟨yk, hyk⟩ : ∃ z, z = y.kind := ⟨_, rfl⟩
 rw [← hyk] at c0
 by_cases h8 : yk = 8
 rotate_left
 ·by_cases h9 : yk = 9
  ·subst h9
   go_wp2_with fail
   refine (scopy_any B M m n p D r v (E3.out.s.rising E3.out.wf) w3 E3.out.s).mono ?_
   rintro e w4 ⟨Mc, Dc, rc, vc, rfl, hc, hMc, hcv, x4⟩
   have HC := Hi hc
   have HMC := Hi hMc
   have HCV := Hi hcv
   have X4 := Hi x4
   have G4 := Hi (HG.out.ext x4)
   clear hc hMc hcv x4 c0 HG
   go_wp2_with fail
   refine (ssame_eq w3.heap.size Mc B M m n p Dc D rc r vc v w4 HC.out (E3.out.s.ext X4.out) HCV.out (fun i hi => Nat.le_trans (HC.out.ts.tb i hi).len (by decide))).mono ?_
   rintro e w5 ⟨rfl, x5⟩
   have X5 := Hi x5
   have G5 := Hi (G4.out.ext x5)
   clear x5 G4
   go_wp2_with ((with_reducible refine so4 L5 ?_ ?_); (focus rfl))
   refine at9 (by go_simp) fun K0 hK => ld_awr _ g y rfl rfl G5.out (hK _ _ ?_)
   clear hK
   go_wp2_with fail
   refine (krec_any y.r w5 (YI.out.r.ext (Ex.trans E3.out.ex (Ex.trans X4.out X5.out)))).mono ?_
   rintro e w6 ⟨x, rfl, hx, x6⟩
   have X6 := Hi (Ex.trans X5.out x6)
   have E6 := Hi (E3.out.ext (Ex.trans X4.out X6.out))
   have HRX : Hid (RkX w w6 x) := Hi (RkX.made hx)
   clear hx x6 G5
   go_wp2_with fail
   refine (sapply_all B M m n p D r v x w6 HRX.out.inn (HRX.out.md M E6.out.lo.1 ⟨_, E6.out.s.blk⟩) E6.out.s).mono ?_
   rintro e w7 ⟨E, p2, r2, v2, rfl, _, _, fr, _⟩
   have E7 := Hi (E3.out.copy HC.out HMC.out HCV.out X4.out X6.out fr)
   clear fr E6 HRX X4 X5 X6 HC HMC HCV E3
   go_wp2_with fail
   refine (same16 w w3.heap.size Mc m n p Dc rc vc M2 R xs w7 E7.out.s E7.out.f E7.out.eq).mono ?_
   rintro e w8 ⟨rfl, x8⟩
   have HE8 := Hi (E7.out.ext x8)
   clear x8 E7
   go_wp2_with fail
   (first | (refine ⟨?_, ?measure⟩; (repeat apply Exists.intro); refine ⟨?rel, rfl⟩) | refine ⟨?rel, ?measure⟩)
   case rel => exact ⟨k + 1, w3.heap.size, Mc, Dc, p, rc, vc, R, xs, by omega, by omega, rfl, by go_num, HE8⟩
   case measure => simp [intOf]; omega
  clear hyk
  have n8 : (yk == (8 : Int)) = false := by simpa using h8
  have n9 : (yk == (9 : Int)) = false := by simpa using h9
  go_wp2_with ((with_reducible refine so4 L5 ?_ ?_); (focus rfl))
  refine at9 (by go_simp) fun K0 hK => ld_awb _ g y rfl rfl HG.out (hK _ _ ?_)
  clear hK
  go_wp2_with fail
  refine (record_any w M2 m n p R xs y w3 (YI.out.ext E3.out.ex) E3.out.f).mono ?_
  rintro e w4 ⟨x, rfl, hx, x4⟩
  have HX0 := Hi hx
  have HXI : Hid (x.In w4) := Hi (by
   rcases hx with rfl | h9
   ·exact YI.out.raw.ext (Ex.trans E3.out.ex x4)
   ·exact h9.inn)
  have HL3 : Hid (∀ i, i < 16 → ∀ g, (r i).ownBlock = some g → g < w3.heap.size) := Hi (fun i hi g hg => ((E3.out.s.ts.tb i hi).row.row.lt g hg).2)
  have E4 := Hi (E3.out.ext x4)
  clear hx x4 c0 HG E3
  go_wp2_with ((with_reducible refine so4 L5 ?_ ?_); (focus rfl))
  refine at9 (by go_simp) fun K0 hK => st_rk _ _ w4.heap.size x rfl rfl rfl HXI.out.v.ok (Bk.new rfl _ _) (by rfl) (fun w5 hd ho => hK _ _ ?_)
  clear hK
  have x5 : Ex w4 w5 := ho.below w4.heap.size (Nat.le_refl _) w4 (Ex.alloc w4 _)
  obtain ⟨g2, hg⟩ : ∃ g, g = w4.heap.size := ⟨_, rfl⟩
  rw [← hg] at hd ⊢
  have G5 := Hi hd
  have HX5 : Hid (x = y.raw ∨ RkM w5 w3.heap.size x) := Hi (HX0.out.imp id fun h9 => h9.ext x5)
  have HXI5 := Hi (HXI.out.ext x5)
  have E5 := Hi (E4.out.ext x5)
  clear hd ho hg x5 HX0 HXI E4
  go_wp2_with ((with_reducible refine so4 L5 ?_ ?_); (focus rfl))
  refine at9 (by go_simp) fun K0 hK => ld_rk _ g2 x rfl rfl G5.out (hK _ _ ?_)
  clear hK
  go_wp2_with fail
  refine (rcheck_all w M2 m n p R xs x w5 HXI5.out E5.out.f).mono ?_
  rintro e w6 ⟨E, rfl, hck, x6⟩
  have HCK := Hi hck
  have HX6 : Hid (x = y.raw ∨ RkM w6 w3.heap.size x) := Hi (HX5.out.imp id fun h9 => h9.ext x6)
  have I6 := Hi (HXI5.out.ext x6)
  have G6 := Hi (G5.out.ext x6)
  have E6 := Hi (E5.out.ext x6)
  clear hck x6 G5 E5 HX5 HXI5
  go_wp2_with ((with_reducible refine so4 L5 ?_ ?_); (focus rfl))
  refine at9 (by go_simp) fun K0 hK => ld_rk _ g2 x rfl rfl G6.out (hK _ _ ?_)
  clear hK
  go_wp2_with fail
  refine (scheck_all B M m n p D r v x w6 I6.out E6.out.s).mono ?_
  rintro e w7 ⟨E2, rfl, hck, x7⟩
  obtain rfl : E2 = E := hck.uniq HCK.out E6.out.eq
  have HX7 : Hid (x = y.raw ∨ RkM w7 w3.heap.size x) := Hi (HX6.out.imp id fun h9 => h9.ext x7)
  have I7 := Hi (I6.out.ext x7)
  have G7 := Hi (G6.out.ext x7)
  have E7 := Hi (E6.out.ext x7)
  have HRX : Hid (RkX w w7 x) := Hi (by
   rcases HX7.out with h9 | h9
   ·rw [h9]; exact RkX.raw YI.out.raw E7.out.ex
   ·exact RkX.made h9)
  clear hck x7 G6 E6 HX6 I6
  go_wp2_with ((with_reducible refine so4 L5 ?_ ?_); (focus rfl))
  refine at9 (by go_simp) fun K0 hK => ld_rk _ g2 x rfl rfl G7.out (hK _ _ ?_)
  clear hK
  go_wp2_with fail
  refine (sapply_all B M m n p D r v x w7 I7.out (HRX.out.md M E7.out.lo.1 ⟨_, E7.out.s.blk⟩) E7.out.s).mono ?_
  rintro e wa ⟨E3, p2, r2, v2, rfl, st, hs2, fr, hl⟩
  obtain rfl : E3 = E2 := st.chk.uniq HCK.out E7.out.eq
  have J8 := Hi (E7.out.sap st hs2 fr hl)
  have G8 : Hid (KB9 wa g2 x) := Hi ⟨G7.out.1, fr.typ E7.out.s G7.out.2 (by decide) (by decide) (by decide)⟩
  have HRX8 : Hid (RkX w wa x) := Hi (by
   rcases HX7.out with h9 | h9
   ·rw [h9]; exact RkX.raw YI.out.raw J8.out.ex
   ·exact RkX.made (h9.sfr fr E7.out.s HL3.out))
  clear st hs2 fr hl E7 G7 HRX HX7 I7 HL3
  go_wp2_with ((with_reducible refine so4 L5 ?_ ?_); (focus rfl))
  refine at9 (by go_simp) fun K0 hK => ld_rk _ g2 x rfl rfl G8.out (hK _ _ ?_)
  clear hK
  go_wp2_with fail
  refine (rapply_all w M2 m n p R xs x wa HRX8.out (fun i hi => ⟨(J8.out.ris i hi).1, (J8.out.ris i hi).srt⟩) J8.out.f).mono ?_
  rintro e wb ⟨E4, p3, R2, xs2, rfl, st2, hf2, kt, hl2⟩
  have hj := J8.out.rap HRX8.out.inn st2 hf2 kt hl2
  obtain rfl : E4 = E3 := hj.1
  have HE9 := Hi hj.2
  have G9 : Hid (KB9 wb g2 x) := Hi ⟨G8.out.1, kt.bk G8.out.2 (by decide)⟩
  have VOK := Hi HRX8.out.inn.v.ok
  clear hj st2 hf2 kt hl2 J8 G8 HRX8 HCK
  obtain ⟨s, hsh, hs16⟩ := shv_range x.v.id
  have HSH := Hi hsh
  obtain ⟨c, b, hdet⟩ := get_det (v2 s) (idn x.v.id)
  have HDT := Hi hdet
  clear hsh hdet
  go_wp2_with ((with_reducible refine so4 L5 ?_ ?_); (focus rfl))
  refine at9 (by go_simp) fun K0 hK => ld_rkid _ g2 x rfl rfl G9.out (hK _ _ ?_)
  clear hK
  go_wp2_with fail
  refine (sget_any B M m n p2 D r2 v2 x.v.id VOK.out.idN s HSH.out hs16 c b HDT.out wb HE9.out.s).mono ?_
  rintro e wc ⟨z, rfl, hz, hzt, xc⟩
  have HZ := Hi hz
  have ZT := Hi hzt
  have EC := Hi (HE9.out.ext xc)
  have GC := Hi (G9.out.ext xc)
  clear hz hzt xc HE9 G9
  go_wp2_with ((with_reducible refine so4 L5 ?_ ?_); (focus rfl))
  refine at9 (by go_simp) fun K0 hK => st_v _ _ wc.heap.size z rfl rfl rfl ZT.out.ok (Bk.new rfl _ _) (by rfl) (fun wd hd ho => hK _ _ ?_)
  clear hK
  have xd : Ex wc wd := ho.below wc.heap.size (Nat.le_refl _) wc (Ex.alloc wc _)
  obtain ⟨g3, hg⟩ : ∃ g, g = wc.heap.size := ⟨_, rfl⟩
  rw [← hg] at hd ⊢
  have G3 := Hi hd
  have ED := Hi (EC.out.ext xd)
  have GD := Hi (GC.out.ext xd)
  have ZD := Hi (ZT.out.ext xd)
  clear hd ho hg xd EC GC ZT
  go_wp2_with ((with_reducible refine so4 L5 ?_ ?_); (focus rfl))
  refine at9 (by go_simp) fun K0 hK => ld_rkid _ g2 x rfl rfl GD.out (hK _ _ ?_)
  clear hK
  go_wp2_with fail
  refine (rget_any w M2 m n p2 R2 xs2 s hs16 x.v.id VOK.out.idN HSH.out wd ED.out.f).mono ?_
  rintro e we ⟨u, b2, rfl, hgt, hu, xe⟩
  have hgg := ED.out.got hs16 VOK.out.idN HDT.out hgt
  obtain rfl : b2 = b := hgg.1
  have HUC := Hi hgg.2
  have UV := Hi hu
  have EE := Hi (ED.out.ext xe)
  have GE3 := Hi (G3.out.ext xe)
  have ZE := Hi (ZD.out.ext xe)
  clear hgg hgt hu xe ED GD G3 ZD HDT HSH
  go_wp2_with ((with_reducible refine so4 L5 ?_ ?_); (focus rfl))
  refine at9 (by go_simp) fun K0 hK => st_v _ _ we.heap.size u rfl rfl rfl UV.out.ok (Bk.new rfl _ _) (by rfl) (fun wf hd ho => hK _ _ ?_)
  clear hK
  have xf : Ex we wf := ho.below we.heap.size (Nat.le_refl _) we (Ex.alloc we _)
  obtain ⟨g4, hg⟩ : ∃ g, g = we.heap.size := ⟨_, rfl⟩
  rw [← hg] at hd ⊢
  have G4 := Hi hd
  have EF := Hi (EE.out.ext xf)
  have GF3 := Hi (GE3.out.ext xf)
  have ZF := Hi (ZE.out.ext xf).vi
  have UF := Hi (UV.out.ext xf)
  clear hd ho hg xf EE GE3 ZE UV
  go_wp2_with ((with_reducible refine so4 L5 ?_ ?_); (focus rfl))
  refine at9 (by go_simp) fun K0 hK => ld_v _ g3 z rfl rfl GF3.out (hK _ _ ?_)
  clear hK
  go_wp2_with ((with_reducible refine so4 L5 ?_ ?_); (focus rfl))
  refine at9 (by go_simp) fun K0 hK => ld_v _ g4 u rfl rfl G4.out (hK _ _ ?_)
  clear hK
  go_wp2_with fail
  refine (rsame_any z u wf ZF.out UF.out).mono ?_
  rintro e wg ⟨rfl, xg⟩
  rw [decide_eq_true (show z.ct = u.ct from HZ.out.trans HUC.out.symm)]
  have EG := Hi (EF.out.ext xg)
  clear xg EF GF3 G4 ZF UF HZ HUC
  go_wp2_with fail
  refine (same16 w B M m n p2 D r2 v2 M2 R2 xs2 wg EG.out.s EG.out.f EG.out.eq).mono ?_
  rintro e w8 ⟨rfl, x8⟩
  have HE8 := Hi (EG.out.ext x8)
  clear x8 EG
  go_wp2_with fail
  (first | (refine ⟨?_, ?measure⟩; (repeat apply Exists.intro); refine ⟨?rel, rfl⟩) | refine ⟨?rel, ?measure⟩)
  case rel => exact ⟨k + 1, B, M, D, p2, r2, v2, R2, xs2, by omega, by omega, rfl, by go_num, HE8⟩
  case measure => simp [intOf]; omega
 subst h8
 clear hyk
 have c5 := HG.out.cells.2.2.2.2.1
 go_wp2_with fail
 refine (within_any2 y.r.shard (-1) 16 YI.out.r.shard (by omega) (by omega) (by omega) w3).mono ?_
 rintro e w4 ⟨⟨kk, rfl, kk0, kk1⟩, rfl⟩
 clear c0 c5
 go_wp2_with fail
 have KI := Hi (YI.out.r.ext E3.out.ex).inn
 have KC := Hi YI.out.r.cap
 have hS0 : ∀ (listed : Array Bool) (f : Nat → Value), (∀ i, listed.getD i false = false) → SQ9 w3 (fun q => q.role = y.role ∧ q.ep = y.ep.tmod 9 ∧ (0 ≤ q.tw ∧ q.tw ≤ n)) listed f w3.drew := fun _ _ h0 => SQ9.start h0 (Below.refl w3.heap.size w3).drew
 obtain ⟨T, hT⟩ : ∃ T : List (Value → Prop), T = [(fun zz => zz = .pointer (some ⟨g, 1, none⟩)), (fun zz => zz = .int .i64 y.role), (fun zz => zz = .pointer (some ⟨g, 3, none⟩)), (fun zz => zz = .int .u64 y.ep), (fun zz => zz = .int .u64 (y.ep.tmod 9)), (fun zz => zz = .pointer (some ⟨g, 2, none⟩)), (fun zz => zz = .int .i64 y.tw), (fun zz => zz = .int .i64 n), (fun z => ∃ t : Int, (0 ≤ t ∧ t ≤ n) ∧ z = .int .i64 t), (fun zz => zz = .pointer (some ⟨g, 4, none⟩)), (fun zz => zz = .pointer (some ⟨g, 16, none⟩)), (fun zz => zz = .slice y.r.ad y.r.l.length y.r.cap), (fun zz => zz = .pointer (some ⟨g, 4, none⟩)), (fun zz => zz = .pointer (some ⟨g, 5, none⟩)), (fun zz => zz = .int .i64 y.r.shard), (fun zz => zz = .pointer (some ⟨g, 2, none⟩)), (fun zz => zz = .int .i64 y.tw), (fun zz => zz = .int .i64 (y.tw.tmod 2)), (fun zz => zz = .int .i64 (IntKind.i64.wrap (y.r.shard + y.tw.tmod 2))), (fun z => ∃ t : Int, (0 ≤ t ∧ t ≤ 15) ∧ z = .int .i64 t), (fun _ => True), (fun _ => True), (fun _ => True), (fun _ => True)] := ⟨_, rfl⟩
 refine wp_region_gen (JS T ([] : List (Nat × Nat)) (fun lz fz wz => SQ9 w3 (fun q => q.role = y.role ∧ q.ep = y.ep.tmod 9 ∧ (0 ≤ q.tw ∧ q.tw ≤ n)) lz fz wz)) (by kernel_rfl) (by kernel_rfl) (by kernel_rfl) (fitB_spec (by kernel_rfl)) (fun listed f h => JS.start listed f h (hS0 listed f h)) ?_ ?_
 ·intro i o ho
  have hi : i < 24 := (Array.getElem?_eq_some_iff.1 ho).1
  have hi' : i = 0 ∨ i = 1 ∨ i = 2 ∨ i = 3 ∨ i = 4 ∨ i = 5 ∨ i = 6 ∨ i = 7 ∨ i = 8 ∨ i = 9 ∨ i = 10 ∨ i = 11 ∨ i = 12 ∨ i = 13 ∨ i = 14 ∨ i = 15 ∨ i = 16 ∨ i = 17 ∨ i = 18 ∨ i = 19 ∨ i = 20 ∨ i = 21 ∨ i = 22 ∨ i = 23 := by omega
  clear hi
  rcases hi' with rfl | rfl | rfl | rfl | rfl | rfl | rfl | rfl | rfl | rfl | rfl | rfl | rfl | rfl | rfl | rfl | rfl | rfl | rfl | rfl | rfl | rfl | rfl | rfl
  all_goals (simp only [List.getElem?_toArray, List.getElem?_cons_zero, List.getElem?_cons_succ, Option.some.injEq] at ho; subst ho; intro listed f a w6 hJ hsz hls hun hdep hout hlat; first | (rw [if_pos (by rfl)]; intro K hK) | skip)
  ·have q10 := hout 10 ob
   have hord := nil_ord 0 listed
   rw [gd9] at q10
   clear hsz hdep hout hlat
   go_simp
   exact hK _ _ (hJ.nx hls hT rfl rfl (SQ9.plain hJ.st (Ex.refl _) 0 (by decide)) hord)
  ·have q108 := hJ.is hT (hdep ⟨0, .data⟩ (by simp) rfl) rfl _ rfl _ rfl
   have hord := nil_ord 1 listed
   have cc := (HG.out.ext hJ.st.ex).cells.2.1
   rw [gd9] at q108
   clear hsz hdep hout hlat
   go_simp
   exact hK _ _ (hJ.nx hls hT rfl rfl (SQ9.plain hJ.st (Ex.refl _) 1 (by decide)) hord)
  ·have q10 := hout 10 ob
   have hord := nil_ord 2 listed
   rw [gd9] at q10
   clear hsz hdep hout hlat
   go_simp
   exact hK _ _ (hJ.nx hls hT rfl rfl (SQ9.plain hJ.st (Ex.refl _) 2 (by decide)) hord)
  ·have q110 := hJ.is hT (hdep ⟨2, .data⟩ (by simp) rfl) rfl _ rfl _ rfl
   have hord := nil_ord 3 listed
   have cc := (HG.out.ext hJ.st.ex).cells.2.2.2.1
   rw [gd9] at q110
   clear hsz hdep hout hlat
   go_simp
   exact hK _ _ (hJ.nx hls hT rfl rfl (SQ9.plain hJ.st (Ex.refl _) 3 (by decide)) hord)
  ·have q111 := hJ.is hT (hdep ⟨3, .data⟩ (by simp) rfl) rfl _ rfl _ rfl
   have hord := nil_ord 4 listed
   rw [gd9] at q111
   clear hsz hdep hout hlat
   go_simp
   exact hK _ _ (hJ.nx hls hT rfl (by first | rfl | exact congrArg (Value.int .i64) (by omega) | exact congrArg (Value.int .i64) (by rw [IntKind.wrap_i64]; omega) | exact congrArg Value.bool (decide_eq_false (by omega)) | exact congrArg Value.bool (decide_eq_true (by omega)) | exact congrArg (Value.int .u64) (by omega)) (SQ9.plain hJ.st (Ex.refl _) 4 (by decide)) hord)
  ·have q10 := hout 10 ob
   have hord := nil_ord 5 listed
   rw [gd9] at q10
   clear hsz hdep hout hlat
   go_simp
   exact hK _ _ (hJ.nx hls hT rfl rfl (SQ9.plain hJ.st (Ex.refl _) 5 (by decide)) hord)
  ·have q113 := hJ.is hT (hdep ⟨5, .data⟩ (by simp) rfl) rfl _ rfl _ rfl
   have hord := nil_ord 6 listed
   have cc := (HG.out.ext hJ.st.ex).cells.2.2.1
   rw [gd9] at q113
   clear hsz hdep hout hlat
   go_simp
   exact hK _ _ (hJ.nx hls hT rfl rfl (SQ9.plain hJ.st (Ex.refl _) 6 (by decide)) hord)
  ·have q1 := hout 1 ob
   have hord := nil_ord 7 listed
   exact wp_mw _ rfl q1 (hK _ _ (hJ.nx hls hT rfl rfl (SQ9.plain hJ.st (Ex.refl _) 7 (by decide)) hord))
  ·have q114 := hJ.is hT (hdep ⟨6, .data⟩ (by simp) rfl) rfl _ rfl _ rfl
   have q115 := hJ.is hT (hdep ⟨7, .data⟩ (by simp) rfl) rfl _ rfl _ rfl
   have hord := nil_ord 8 listed
   have hst := hJ.st
   rw [gd9] at q114
   rw [gd9] at q115
   clear hsz hdep hout hlat
   go_simp
   refine (within_any2 y.tw 0 n YI.out.tw (by omega) (by omega) (by omega) w6).mono ?_
   rintro e wq ⟨⟨t9, rfl, t0, t1⟩, rfl⟩
   exact hK _ _ (hJ.nx hls hT rfl (by exact ⟨t9, ⟨t0, t1⟩, rfl⟩) (SQ9.plain hst (Ex.refl _) 8 (by decide)) hord)
  ·have q10 := hout 10 ob
   have hord := nil_ord 9 listed
   rw [gd9] at q10
   clear hsz hdep hout hlat
   go_simp
   exact hK _ _ (hJ.nx hls hT rfl rfl (SQ9.plain hJ.st (Ex.refl _) 9 (by decide)) hord)
  ·have q117 := hJ.is hT (hdep ⟨9, .data⟩ (by simp) rfl) rfl _ rfl _ rfl
   have hord := nil_ord 10 listed
   rw [gd9] at q117
   clear hsz hdep hout hlat
   go_simp
   exact hK _ _ (hJ.nx hls hT rfl rfl (SQ9.plain hJ.st (Ex.refl _) 10 (by decide)) hord)
  ·have q118 := hJ.is hT (hdep ⟨10, .data⟩ (by simp) rfl) rfl _ rfl _ rfl
   have hord := nil_ord 11 listed
   have cc := (HG.out.ext hJ.st.ex).cells.2.2.2.2.2
   rw [gd9] at q118
   clear hsz hdep hout hlat
   go_simp
   exact hK _ _ (hJ.nx hls hT rfl rfl (SQ9.plain hJ.st (Ex.refl _) 11 (by decide)) hord)
  ·have q10 := hout 10 ob
   have hord := nil_ord 12 listed
   rw [gd9] at q10
   clear hsz hdep hout hlat
   go_simp
   exact hK _ _ (hJ.nx hls hT rfl rfl (SQ9.plain hJ.st (Ex.refl _) 12 (by decide)) hord)
  ·have q120 := hJ.is hT (hdep ⟨12, .data⟩ (by simp) rfl) rfl _ rfl _ rfl
   have hord := nil_ord 13 listed
   rw [gd9] at q120
   clear hsz hdep hout hlat
   go_simp
   exact hK _ _ (hJ.nx hls hT rfl rfl (SQ9.plain hJ.st (Ex.refl _) 13 (by decide)) hord)
  ·have q121 := hJ.is hT (hdep ⟨13, .data⟩ (by simp) rfl) rfl _ rfl _ rfl
   have hord := nil_ord 14 listed
   have cc := (HG.out.ext hJ.st.ex).cells.2.2.2.2.1
   rw [gd9] at q121
   clear hsz hdep hout hlat
   go_simp
   exact hK _ _ (hJ.nx hls hT rfl rfl (SQ9.plain hJ.st (Ex.refl _) 14 (by decide)) hord)
  ·have q10 := hout 10 ob
   have hord := nil_ord 15 listed
   rw [gd9] at q10
   clear hsz hdep hout hlat
   go_simp
   exact hK _ _ (hJ.nx hls hT rfl rfl (SQ9.plain hJ.st (Ex.refl _) 15 (by decide)) hord)
  ·have q123 := hJ.is hT (hdep ⟨15, .data⟩ (by simp) rfl) rfl _ rfl _ rfl
   have hord := nil_ord 16 listed
   have cc := (HG.out.ext hJ.st.ex).cells.2.2.1
   rw [gd9] at q123
   clear hsz hdep hout hlat
   go_simp
   exact hK _ _ (hJ.nx hls hT rfl rfl (SQ9.plain hJ.st (Ex.refl _) 16 (by decide)) hord)
  ·have q124 := hJ.is hT (hdep ⟨16, .data⟩ (by simp) rfl) rfl _ rfl _ rfl
   have hord := nil_ord 17 listed
   rw [gd9] at q124
   clear hsz hdep hout hlat
   go_simp
   exact hK _ _ (hJ.nx hls hT rfl (by first | rfl | exact congrArg (Value.int .i64) (by omega) | exact congrArg (Value.int .i64) (by rw [IntKind.wrap_i64]; omega) | exact congrArg Value.bool (decide_eq_false (by omega)) | exact congrArg Value.bool (decide_eq_true (by omega)) | exact congrArg (Value.int .u64) (by omega)) (SQ9.plain hJ.st (Ex.refl _) 17 (by decide)) hord)
  ·have q122 := hJ.is hT (hdep ⟨14, .data⟩ (by simp) rfl) rfl _ rfl _ rfl
   have q125 := hJ.is hT (hdep ⟨17, .data⟩ (by simp) rfl) rfl _ rfl _ rfl
   have hord := nil_ord 18 listed
   rw [gd9] at q122
   rw [gd9] at q125
   clear hsz hdep hout hlat
   go_simp
   exact hK _ _ (hJ.nx hls hT rfl (by first | rfl | exact congrArg (Value.int .i64) (by omega) | exact congrArg (Value.int .i64) (by rw [IntKind.wrap_i64]; omega) | exact congrArg Value.bool (decide_eq_false (by omega)) | exact congrArg Value.bool (decide_eq_true (by omega)) | exact congrArg (Value.int .u64) (by omega)) (SQ9.plain hJ.st (Ex.refl _) 18 (by decide)) hord)
  ·have q126 := hJ.is hT (hdep ⟨18, .data⟩ (by simp) rfl) rfl _ rfl _ rfl
   have hord := nil_ord 19 listed
   have hst := hJ.st
   rw [gd9] at q126
   clear hsz hdep hout hlat
   go_simp
   refine (within_any2 (IntKind.i64.wrap (y.r.shard + y.tw.tmod 2)) 0 15 (wrapi_in _) (by omega) (by omega) (by omega) w6).mono ?_
   rintro e wq ⟨⟨t9, rfl, t0, t1⟩, rfl⟩
   exact hK _ _ (hJ.nx hls hT rfl (by exact ⟨t9, ⟨t0, t1⟩, rfl⟩) (SQ9.plain hst (Ex.refl _) 19 (by decide)) hord)
  ·have q119 := hJ.is hT (hdep ⟨11, .data⟩ (by simp) rfl) rfl _ rfl _ rfl
   have dd127 := hdep ⟨19, .data⟩ (by simp) rfl
   have q127 := dd127.2 _ rfl _ rfl
   have h127 := hJ.vals 19 dd127.1
   rw [hT] at h127
   have h127 : (fun z => ∃ t : Int, (0 ≤ t ∧ t ≤ 15) ∧ z = .int .i64 t) (f 19) := h127
   obtain ⟨t127, b127, e127⟩ := h127
   rw [e127] at q127
   clear e127
   clear dd127
   have hord := nil_ord 20 listed
   have hst := hJ.st
   rw [gd9] at q119
   rw [gd9] at q127
   clear hsz hdep hout hlat
   go_simp
   refine (keepvs_any y.r.ad y.r.cap y.r.l t127 ⟨by omega, by omega⟩ w6 (Nat.le_trans KI.out.len KC.out) (KI.out.ext hst.ex)).mono ?_
   rintro e wq ⟨v9, ys, rfl, hrow, hlen, _, _, x4⟩
   obtain ⟨ad9, cap9, e9, _⟩ := hrow.inn3
   exact hK _ _ (hJ.nx hls hT rfl (by exact trivial) (SQ9.s20 hst hun x4 ⟨ad9, cap9, ys, e9, hrow.less hst.ex.sz', hlen⟩) hord)
  ·have q109 := hJ.is hT (hdep ⟨1, .data⟩ (by simp) rfl) rfl _ rfl _ rfl
   have q112 := hJ.is hT (hdep ⟨4, .data⟩ (by simp) rfl) rfl _ rfl _ rfl
   have dd116 := hdep ⟨8, .data⟩ (by simp) rfl
   have q116 := dd116.2 _ rfl _ rfl
   have h116 := hJ.vals 8 dd116.1
   rw [hT] at h116
   have h116 : (fun z => ∃ t : Int, (0 ≤ t ∧ t ≤ n) ∧ z = .int .i64 t) (f 8) := h116
   obtain ⟨t116, b116, e116⟩ := h116
   rw [e116] at q116
   clear e116
   clear dd116
   have dd128 := hdep ⟨20, .data⟩ (by simp) rfl
   have q128 := dd128.2 _ rfl _ rfl
   have hord := nil_ord 21 listed
   have hst := hJ.st
   have hl20 := (hdep ⟨20, .data⟩ (by simp) rfl).1
   obtain ⟨ad9, cap9, ys9, e9, _, _⟩ := hst.row hl20
   rw [e9] at q128
   refine wp_build _ _ rfl (partR ⟨y.role, y.ep.tmod 9, t116⟩ (.slice ad9 ys9.length cap9)).toArray ?_ (hK _ _ (hJ.nx hls hT rfl (by exact trivial) (SQ9.s21 hst hl20 (q := ⟨y.role, y.ep.tmod 9, t116⟩) ⟨rfl, rfl, b116⟩ (by rw [e9])) hord))
   simp only [List.map_cons, List.map_nil, show a.eval (.tmp 109) = _ from q109, show a.eval (.tmp 112) = _ from q112, show a.eval (.tmp 116) = _ from q116, show a.eval (.tmp 128) = _ from q128]
   exact built_rp4 y.role (y.ep.tmod 9) t116 ad9 ys9.length cap9
  ·have hord := nil_ord 22 listed
   have hst := hJ.st
   clear hsz hdep hout hlat
   go_simp
   exact hK _ _ (hJ.nx hls hT rfl (by trivial) (SQ9.s22 hst hun (Ex.alloc _ _) (z := (partR ⟨0, 0, 0⟩ (.slice none 0 0)).toArray) rfl rfl (Bk.new rfl 105 _)) hord)
  have dd12 := hdep ⟨22, .data⟩ (by simp) rfl
  have q12 := dd12.2 _ rfl _ rfl
  have dd129 := hdep ⟨21, .data⟩ (by simp) rfl
  have q129 := dd129.2 _ rfl _ rfl
  have hord := nil_ord 23 listed
  have hst := hJ.st
  have hl22 := (hdep ⟨22, .data⟩ (by simp) rfl).1
  have hl21 := (hdep ⟨21, .data⟩ (by simp) rfl).1
  obtain ⟨g9, z9, hg9, hge, hz, hb⟩ := hst.e22 hl22 hun
  obtain ⟨hl20, q9, hP, e21⟩ := hst.bld hl21
  obtain ⟨ad9, cap9, ys9, e20, _, _⟩ := hst.row hl20
  rw [hg9] at q12
  rw [e21, e20] at q129
  exact st_rp _ _ g9 q9 ad9 _ cap9 rfl q12 q129 hb hz (fun w9 hd ho => hK _ _ (hJ.nx hls hT rfl (by trivial) (SQ9.s23 hst (by rw [hls]; decide) hl20 hl22 hg9 hge hb ho hP (by rw [e20]; exact hd)) hord))
 intro listed f w6 hall hJ
 have hst := hJ.st
 simp only [putAll, Act.put, List.setIfInBounds_toArray, List.set_cons_zero, List.set_cons_succ, Nat.zero_add, Nat.reduceAdd]
 obtain ⟨_, hl20, q, g9, hP, hg22, hge, hbk⟩ := hst.e23 (hall 23 (by simp))
 obtain ⟨ad9, cap9, ys, e20, hrow, hlen⟩ := hst.row hl20
 rw [e20] at hbk hrow
 rw [hg22, e20]
 have GB := Hi hbk
 have RW9 := Hi hrow
 have E6 := Hi (E3.out.ext hst.ex)
 have X6 := Hi hst.ex
 have HGE := Hi hge
 have G6 := Hi (HG.out.ext hst.ex)
 obtain ⟨p1, p2, p3⟩ := hP
 have QE : Hid (0 ≤ q.ep ∧ q.ep < 18446744073709551616) := Hi (by rw [p2]; have h1 := tmod_b y.ep 9 (by decide); have h2 := Int.tmod_nonneg 9 YI.out.ep.1; omega)
 have QR : Hid (q.role = y.role) := Hi p1
 have QT := Hi p3
 clear hst hS0 hbk hrow hge hlen hl20 p1 p2 p3 e20 hg22 HG KI KC
 clear hJ hall hT
 have c1 := G6.out.cells.2.1
 go_upto_if 133 with fail
 go_cut [] (fun wz => ∃ q2 : Pa, Hid q2.Ok ∧ Hid (Bk wz g9 105 (partR q2 (.slice ad9 ys.length cap9)).toArray) ∧ Hid (VRow wz w3.heap.size (.slice ad9 ys.length cap9) ys) ∧ Hid (EI w wz B M m n D M2 p r v R xs))
 case first =>
  by_cases hr3 : y.role.tmod 3 = 1
  ·have e3 : (y.role.tmod 3 != (1 : Int)) = false := by simp [hr3]
   go_wp2_with fail
   go_meet
   case rel => exact ⟨q, Hi ⟨by rw [QR.out]; exact YI.out.role, QE.out, by have := QT.out; unfold i64; omega⟩, GB, RW9, E6⟩
  have e3 : (y.role.tmod 3 != (1 : Int)) = true := by simpa using hr3
  go_wp2_with ((with_reducible refine so4 [1000 + 3] ?_ ?_); (focus rfl))
  refine at9 (by go_simp) fun K0 hK => wp_st1 (C := partR q (.slice ad9 ys.length cap9)) _ _ g9 0 (.int .i64 (bits .and .i64 y.role 3)) rfl rfl rfl GB.out (show 0 < 4 from by decide) (by kernel_rfl) rfl (fun w9 hd ho => hK _ _ ?_)
  clear hK
  have HE9 := Hi (E3.out.ext (ho.below w3.heap.size HGE.out w3 X6.out))
  have kt : Kt [105] 0 w6 w9 := Kt.md ho.md (Nat.zero_le _) GB.out (List.mem_singleton.2 rfl)
  have HV9 : Hid (VRow w9 w3.heap.size (.slice ad9 ys.length cap9) ys) := Hi ⟨kt.row RW9.out.row (by decide), fun i y hy => (RW9.out.ins i y hy).kt kt (by decide)⟩
  have HD := Hi hd
  clear hd ho kt
  go_wp2_with fail
  go_meet
  case rel => exact ⟨⟨bits .and .i64 y.role 3, q.ep, q.tw⟩, Hi ⟨bits_in .and y.role 3, QE.out, by have := QT.out; simp only; unfold i64; omega⟩, HD, HV9, HE9⟩
 clear c1 GB RW9 E6 G6 E3 QE QR QT X6 HGE
 rename World => wz
 obtain ⟨q2, HQ, GB, RW9, E6⟩ := hcut
 go_wp2_with ((with_reducible refine so4 L5 ?_ ?_); (focus rfl))
 refine at9 (by go_simp) fun K0 hK => ld_rp _ g9 q2 _ rfl rfl GB.out (hK _ _ ?_)
 clear hK
 go_wp2_with fail
 obtain ⟨_, _, e9, hin9, hc9⟩ := RW9.out.inn3
 cases e9
 have INN := Hi hin9
 clear hin9
 refine (rset_any w M2 m n p R xs kk ⟨by omega, by omega⟩ q2 HQ.out ad9 cap9 ys hc9 wz INN.out (fun y hy => ⟨(RW9.out.mem hy).ok, Or.inr ((RW9.out.mem hy).sec.less (Nat.zero_le _)), (RW9.out.mem hy).len⟩) E6.out.f).mono ?_
 rintro e w7 (⟨rfl, hnp, x7⟩ | ⟨rfl, hpp, hraf⟩)
 ·have HNP := Hi hnp
  have GB7 := Hi (GB.out.ext x7)
  have E7 := Hi (E6.out.ext x7)
  have IN7 := Hi (INN.out.ext x7)
  have RV7 := Hi (fun (i : Nat) (x : Vt) (hx : ys[i]? = some x) => ((RW9.out.ins i x hx).ext x7).vi)
  clear hnp x7
  have d0 : w7.cell? ⟨g9, 0, none⟩ = some (.int .i64 q2.role) := (GB7.out.cell 0).trans rfl
  have d1 : w7.cell? ⟨g9, 1, none⟩ = some (.int .u64 q2.ep) := (GB7.out.cell 1).trans rfl
  have d2 : w7.cell? ⟨g9, 2, none⟩ = some (.int .i64 q2.tw) := (GB7.out.cell 2).trans rfl
  have d3 : w7.cell? ⟨g9, 3, none⟩ = some (.slice ad9 ys.length cap9) := (GB7.out.cell 3).trans rfl
  obtain ⟨ln, hln⟩ : ∃ z, z = ys.length := ⟨_, rfl⟩
  have HLN := Hi hln
  rw [← hln] at d3
  clear hln
  go_wp2_with fail
  rw [HLN.out]
  refine (sset_any B M m n p D r v kk q2 HQ.out ad9 cap9 ys hc9 w7 IN7.out RV7.out E7.out.s).mono ?_
  rintro e wa (⟨_, rfl, xa⟩ | ⟨hpp, _⟩)
  rotate_left
  ·exact absurd hpp HNP.out
  have EA := Hi (E7.out.ext xa)
  clear xa d0 d1 d2 d3 E7 GB7
  go_wp2_with fail
  refine (same16 w B M m n p D r v M2 R xs wa EA.out.s EA.out.f EA.out.eq).mono ?_
  rintro e w8 ⟨rfl, x8⟩
  have HE8 := Hi (EA.out.ext x8)
  clear x8 EA
  go_wp2_with fail
  (first | (refine ⟨?_, ?measure⟩; (repeat apply Exists.intro); refine ⟨?rel, rfl⟩) | refine ⟨?rel, ?measure⟩)
  case rel => exact ⟨k + 1, B, M, D, p, r, v, R, xs, by omega, by omega, rfl, by go_num, HE8⟩
  case measure => simp [intOf]; omega
 have HPP := Hi hpp
 have HRF := Hi hraf
 have hkt : Kt [124] w.heap.size wz w7 := hraf.elim fun _ h => h.2.1
 have GB7 := Hi (hkt.bk GB.out (by decide))
 have S7 := Hi (E6.out.s.kts hkt (by decide) (by decide) (by decide) (by decide))
 have RW7 : Hid (VRow w7 w3.heap.size (.slice ad9 ys.length cap9) ys) := Hi ⟨hkt.row RW9.out.row (by decide), fun i y hy => (RW9.out.ins i y hy).kt hkt (by decide)⟩
 obtain ⟨_, _, e9, hin9, _⟩ := RW7.out.inn3
 cases e9
 have IN7 := Hi hin9
 clear hpp hraf hkt hin9
 have d0 : w7.cell? ⟨g9, 0, none⟩ = some (.int .i64 q2.role) := (GB7.out.cell 0).trans rfl
 have d1 : w7.cell? ⟨g9, 1, none⟩ = some (.int .u64 q2.ep) := (GB7.out.cell 1).trans rfl
 have d2 : w7.cell? ⟨g9, 2, none⟩ = some (.int .i64 q2.tw) := (GB7.out.cell 2).trans rfl
 have d3 : w7.cell? ⟨g9, 3, none⟩ = some (.slice ad9 ys.length cap9) := (GB7.out.cell 3).trans rfl
 obtain ⟨ln, hln⟩ : ∃ z, z = ys.length := ⟨_, rfl⟩
 have HLN := Hi hln
 rw [← hln] at d3
 clear hln
 go_wp2_with fail
 rw [HLN.out]
 refine (sset_any B M m n p D r v kk q2 HQ.out ad9 cap9 ys hc9 w7 IN7.out (fun i x hx => (RW7.out.ins i x hx).vi) S7.out).mono ?_
 rintro e wa (⟨hnp, _⟩ | ⟨_, rfl, D9, rv, zs, hzc, hs9, hmd, hD, hrv⟩)
 ·exact absurd HPP.out hnp
 obtain ⟨s, hs⟩ : ∃ s : Nat, kk = (s : Int) := ⟨kk.toNat, by have := HPP.out.1; omega⟩
 subst hs
 have hs16 : s < 16 := by have := HPP.out.1; omega
 obtain ⟨v9, hE⟩ := E6.out.set hs16 HQ.out HPP.out hzc HRF.out hs9 hmd hD hrv
 have EA := Hi hE
 clear hzc hs9 hmd hD hrv hE d0 d1 d2 d3 S7 GB7 HPP HRF RW7 IN7
 go_wp2_with fail
 refine (same16 w B M m n (updF p s q2) (updF D s D9) (updF r s rv) (updF v s zs) M2 (updF R s v9) (updF xs s ys) wa EA.out.s EA.out.f EA.out.eq).mono ?_
 rintro e w8 ⟨rfl, x8⟩
 have HE8 := Hi (EA.out.ext x8)
 clear x8 EA
 go_wp2_with fail
 (first | (refine ⟨?_, ?measure⟩; (repeat apply Exists.intro); refine ⟨?rel, rfl⟩) | refine ⟨?rel, ?measure⟩)
 case rel => exact ⟨k + 1, B, M, (updF D s D9), (updF p s q2), (updF r s rv), (updF v s zs), (updF R s v9), (updF xs s ys), by omega, by omega, rfl, by go_num, HE8⟩
 case measure => simp [intOf]; omega
open Go.ChangeShapes Go.WideShapes Go.ChangeAt Go.RowKit Go.Deep
theorem aw_nil (w : World) : Awp.In none 0 [] w := ⟨Nat.le_refl _, fun _ => rfl, fun i x hx => by simp at hx, fun h => absurd h (Nat.lt_irrefl 0)⟩
theorem play16_nil (m n : Int) (hm : i64 m) (hn : i64 n) (w : World) : Calls Try.prog 15 #[.int .i64 m, .int .i64 n, .slice none 0 0] w fun e w' => e = .returned (.bool true) ∧ Ex w w' :=
  play16 m n hm hn none 0 [] w (by decide) (aw_nil w)
theorem wp_bs2 {o : Oper} {a : Act} {w : World} {K : Act → World → Prop} {Q : Exit → Act → World → Prop} (t e : TypeId) (z : Value) (sz bytes : Nat) (y0 y1 : Operand) (C0 C1 : List Value) (ho : o.op = .buildSlice t 2 #[(0, y0), (1, y1)]) (hu : Try.prog.underlying t = some (.slice e))
    (hinfo : (Try.prog.info? e).map (fun i => (i.zero, i.size, i.bytes)) = some (some z, sz, bytes)) (hz : z.cells.size = sz) (hp : 0 < sz) (hs : sz ≤ 1000) (h0 : C0.length = sz) (h1 : C1.length = sz) (e0 : a.eval y0 = .agg C0.toArray) (e1 : a.eval y1 = .agg C1.toArray)
    (hk : K (a.put o.dst (.slice (some ⟨w.heap.size, 0, none⟩) 2 2)) (w.alloc (.cells (C0 ++ C1).toArray e))) : o.wp Try.prog a w K Q := by
  obtain ⟨i0, hi0, hz0, hz1, hz2⟩ := info_parts hinfo
  refine wp_buildSlice t e 2 #[(0, y0), (1, y1)] ho (C0 ++ C1).toArray i0 z hu hi0 hz0 (by rw [hz1]; omega) (by rw [hz1]; omega) ?_ hk
  have h := Great.fill_whole (s := sz) hp [.agg C0.toArray, .agg C1.toArray] ((Array.range (2 * sz)).map (z.cells[· % z.cells.size]!)) (fun v hv => by
    simp only [List.mem_cons, List.not_mem_nil, or_false] at hv
    rcases hv with rfl | rfl
    · show C0.toArray.size = sz; simpa using h0
    · show C1.toArray.size = sz; simpa using h1) (by simp)
  rw [hz1]
  have e9 : ((#[(0, y0), (1, y1)] : Array (Nat × Operand)).map fun x => (x.1, a.eval x.2)).toList = ([Value.agg C0.toArray, .agg C1.toArray].zipIdx 0).map fun x => (x.2, x.1) := by simp [e0, e1]
  refine (congrArg _ e9).trans (h.trans ?_)
  simp [Value.cells]
theorem wp_bs4 {o : Oper} {a : Act} {w : World} {K : Act → World → Prop} {Q : Exit → Act → World → Prop} (t e : TypeId) (z : Value) (sz bytes : Nat) (y0 y1 y2 y3 : Operand) (C0 C1 C2 C3 : List Value) (ho : o.op = .buildSlice t 4 #[(0, y0), (1, y1), (2, y2), (3, y3)]) (hu : Try.prog.underlying t = some (.slice e))
    (hinfo : (Try.prog.info? e).map (fun i => (i.zero, i.size, i.bytes)) = some (some z, sz, bytes)) (hz : z.cells.size = sz) (hp : 0 < sz) (hs : sz ≤ 1000) (h0 : C0.length = sz) (h1 : C1.length = sz) (h2 : C2.length = sz) (h3 : C3.length = sz) (e0 : a.eval y0 = .agg C0.toArray) (e1 : a.eval y1 = .agg C1.toArray) (e2 : a.eval y2 = .agg C2.toArray) (e3 : a.eval y3 = .agg C3.toArray)
    (hk : K (a.put o.dst (.slice (some ⟨w.heap.size, 0, none⟩) 4 4)) (w.alloc (.cells (C0 ++ (C1 ++ (C2 ++ C3))).toArray e))) : o.wp Try.prog a w K Q := by
  obtain ⟨i0, hi0, hz0, hz1, hz2⟩ := info_parts hinfo
  refine wp_buildSlice t e 4 #[(0, y0), (1, y1), (2, y2), (3, y3)] ho (C0 ++ (C1 ++ (C2 ++ C3))).toArray i0 z hu hi0 hz0 (by rw [hz1]; omega) (by rw [hz1]; omega) ?_ hk
  have h := Great.fill_whole (s := sz) hp [.agg C0.toArray, .agg C1.toArray, .agg C2.toArray, .agg C3.toArray] ((Array.range (4 * sz)).map (z.cells[· % z.cells.size]!)) (fun v hv => by
    simp only [List.mem_cons, List.not_mem_nil, or_false] at hv
    rcases hv with rfl | rfl | rfl | rfl
    · show C0.toArray.size = sz; simpa using h0
    · show C1.toArray.size = sz; simpa using h1
    · show C2.toArray.size = sz; simpa using h2
    · show C3.toArray.size = sz; simpa using h3) (by simp)
  rw [hz1]
  have e9 : ((#[(0, y0), (1, y1), (2, y2), (3, y3)] : Array (Nat × Operand)).map fun x => (x.1, a.eval x.2)).toList = ([Value.agg C0.toArray, .agg C1.toArray, .agg C2.toArray, .agg C3.toArray].zipIdx 0).map fun x => (x.2, x.1) := by simp [e0, e1, e2, e3]
  refine (congrArg _ e9).trans (h.trans ?_)
  simp [Value.cells]
def kvA (k : Int) : Kv := ⟨k, 0, 0, 3, 0, k, 0, nilB⟩
def kv1 : Kv := ⟨0, 0, 0, 2, 0, 0, 0, nilB⟩
def kv2 : Kv := ⟨0, 0, 0, 0, 0, 3, 0, nilB⟩
theorem built_kvA (k : Int) : Try.prog.built 27 [(0, .int .i64 k), (3, .int .i64 3), (5, .int .i64 k)] = some (kvA k).C.toArray := by kernel_rfl
theorem built_kv1 : Try.prog.built 27 [(3, .int .i64 2)] = some kv1.C.toArray := by kernel_rfl
theorem built_kv2 : Try.prog.built 27 [(5, .int .i64 3)] = some kv2.C.toArray := by kernel_rfl
def rrA (d e f h k : Int) (g f9 : Nat) : Rr := ⟨d, e, f, h, kvA k, some ⟨g, 0, none⟩, 2, [kv1, kv2].take f9⟩
def awA (a b c d e f h k : Int) (g f9 : Nat) : Aw := ⟨a, b, c, k, rrA d e f h k g f9, zeroRk⟩
theorem built_rrA (d e f h k : Int) (g n : Nat) : Try.prog.built 30 [(0, .int .i64 d), (1, .int .i64 e), (2, .int .i64 f), (3, .int .u64 h), (4, .agg (kvA k).C.toArray), (5, .slice (some ⟨g, 0, none⟩) n 2)] = some (([.int .i64 d, .int .i64 e, .int .i64 f, .int .u64 h] : List Value) ++ (kvA k).C ++ [Value.slice (some ⟨g, 0, none⟩) n 2]).toArray := by kernel_rfl
theorem built_awA (a b c k : Int) (R : Rr) : Try.prog.built 41 [(0, .int .i64 a), (1, .int .i64 b), (2, .int .i64 c), (3, .int .u64 k), (4, .agg R.C.toArray)] = some (Aw.C ⟨a, b, c, k, R, zeroRk⟩).toArray := by kernel_rfl
theorem zeroRk_in (w : World) : zeroRk.In w := ⟨by unfold zeroRk i64; simp only; omega, by unfold zeroRk i64; simp only; omega, by unfold zeroRk i64; simp only; omega, by unfold zeroRk; simp only; omega, ⟨zeroVt_ok, nilB_in _ _⟩, ⟨Nat.le_refl _, fun _ => rfl, fun i x hx => by simp [zeroRk] at hx, fun h => absurd h (Nat.lt_irrefl 0)⟩, by decide, fun i x hx => by simp [zeroRk] at hx⟩
structure AN (w : World) (x : Aw) : Prop where
  is : ∃ (a b c d e f h k : Int) (g f9 : Nat), x = awA a b c d e f h k g f9 ∧ f9 ≤ 2 ∧ (0 ≤ a ∧ a < 1000) ∧ (0 ≤ b ∧ b < 1000) ∧ (0 ≤ c ∧ c < 1000) ∧ (0 ≤ d ∧ d < 1000) ∧ (0 ≤ e ∧ e < 1000) ∧ (0 ≤ f ∧ f < 1000) ∧ (0 ≤ h ∧ h < 1000) ∧ (0 ≤ k ∧ k < 1000) ∧ Bk w g 27 (kv1.C ++ kv2.C).toArray
theorem AN.ext {w w' : World} {x : Aw} (h : AN w x) (k : Ex w w') : AN w' x := by
  obtain ⟨a, b, c, d, e, f, h, k9, g, f9, e1, e2, a1, a2, a3, a4, a5, a6, a7, a8, hb⟩ := h.is
  exact ⟨a, b, c, d, e, f, h, k9, g, f9, e1, e2, a1, a2, a3, a4, a5, a6, a7, a8, hb.ext k⟩
theorem AN.kt {S : List Nat} {B : Nat} {w w' : World} {x : Aw} (h : AN w x) (k : Kt S B w w') (hs : 27 ∉ S) : AN w' x := by
  obtain ⟨a, b, c, d, e, f, h, k9, g, f9, e1, e2, a1, a2, a3, a4, a5, a6, a7, a8, hb⟩ := h.is
  exact ⟨a, b, c, d, e, f, h, k9, g, f9, e1, e2, a1, a2, a3, a4, a5, a6, a7, a8, k.bk hb hs⟩
theorem kv_in (x : Kv) (w : World) (h : x = kv1 ∨ x = kv2 ∨ ∃ k : Int, (0 ≤ k ∧ k < 1000) ∧ x = kvA k) : x.In w := by
  rcases h with rfl | rfl | ⟨k, hk, rfl⟩ <;> exact ⟨by unfold i64; simp only [kv1, kv2, kvA]; omega, by unfold i64; simp only [kv1, kv2, kvA]; omega, by unfold i64; simp only [kv1, kv2, kvA]; omega, by unfold i64; simp only [kv1, kv2, kvA]; omega, by unfold i64; simp only [kv1, kv2, kvA]; omega, by unfold i64; simp only [kv1, kv2, kvA]; omega, by simp only [kv1, kv2, kvA]; omega, by simp only [kv1, kv2, kvA]; omega, nilB_in _ _, by show (0 : Nat) ≤ 9223372036854775807; decide⟩
theorem AN.inn {w : World} {x : Aw} (h : AN w x) : x.In w := by
  obtain ⟨a, b, c, d, e, f, h, k9, g, f9, rfl, e2, a1, a2, a3, a4, a5, a6, a7, a8, hb⟩ := h.is
  refine ⟨by unfold i64; simp only [awA]; omega, by unfold i64; simp only [awA]; omega, by unfold i64; simp only [awA]; omega, by simp only [awA]; omega, ⟨by unfold i64; simp only [awA, rrA]; omega, by unfold i64; simp only [awA, rrA]; omega, by unfold i64; simp only [awA, rrA]; omega, by simp only [awA, rrA]; omega, kv_in _ _ (Or.inr (Or.inr ⟨k9, a8, rfl⟩)), ⟨?_, (fun h => by cases h), fun i y hy => ?_, fun _ => ⟨g, 0, rfl, hb.lt, fun i y hy j u hu => ?_⟩⟩, (by show 2 ≤ 9223372036854775807; decide)⟩, zeroRk_in w⟩
  · show ([kv1, kv2].take f9).length ≤ 2
    rw [List.length_take]; exact Nat.min_le_right _ _
  · have hm : y ∈ [kv1, kv2] := List.mem_of_mem_take (List.mem_of_getElem? (show ([kv1, kv2].take f9)[i]? = some y from hy))
    simp only [List.mem_cons, List.not_mem_nil, or_false] at hm
    exact kv_in y w (hm.imp id Or.inl)
  have hy2 : ([kv1, kv2].take f9)[i]? = some y := hy
  rw [List.getElem?_take] at hy2
  split at hy2
  · rename_i hi
    have hi2 : i < 2 := by omega
    rw [hb.cell]
    rcases (show i = 0 ∨ i = 1 by omega) with rfl | rfl
    · obtain rfl : kv1 = y := by simpa using hy2
      have hj : j < 8 := (List.getElem?_eq_some_iff.1 hu).1
      rw [show 0 + 0 * 8 + j = j by omega, ← Array.getElem?_toList]
      show (kv1.C ++ kv2.C)[j]? = some u
      rw [List.getElem?_append_left (by show j < 8; exact hj)]; exact hu
    obtain rfl : kv2 = y := by simpa using hy2
    rw [show 0 + 1 * 8 + j = 8 + j by omega, ← Array.getElem?_toList]
    show (kv1.C ++ kv2.C)[8 + j]? = some u
    rw [List.getElem?_append_right (by show 8 ≤ 8 + j; omega), show 8 + j - kv1.C.length = j from (by show 8 + j - 8 = j; omega)]; exact hu
  cases hy2
theorem awflat_at : ∀ (l : List Aw) (i j : Nat) (x : Aw), (∀ y ∈ l, y.C.length = 64) → l[i]? = some x → j < 64 → (l.flatMap Aw.C)[i * 64 + j]? = x.C[j]?
  | [], _, _, _, _, h, _ => by simp at h
  | y :: r, 0, j, x, hl, h, hj => by
    obtain rfl : y = x := by simpa using h
    have h6 := hl y (List.mem_cons_self ..)
    rw [List.flatMap_cons, List.getElem?_append_left (by omega)]
    congr 1; omega
  | y :: r, i + 1, j, x, hl, h, hj => by
    have h6 := hl y (List.mem_cons_self ..)
    rw [List.flatMap_cons, List.getElem?_append_right (by omega), show (i + 1) * 64 + j - y.C.length = i * 64 + j from by omega]
    exact awflat_at r i j x (fun z hz => hl z (List.mem_cons_of_mem _ hz)) (by simpa using h) hj
structure ARow (w : World) (B : Nat) (v : Value) (xs : List Aw) : Prop where
  row : w.ownsRow B 41 64 v xs.length (xs.flatMap Aw.C)
  ins : ∀ (i : Nat) (x : Aw), xs[i]? = some x → AN w x
theorem ARow.nil (w : World) (B : Nat) : ARow w B (.slice none 0 0) [] := ⟨World.ownsRow_nil _ _ _ _, fun i x hx => by simp at hx⟩
theorem ARow.ext {w w' : World} {B : Nat} {v : Value} {xs : List Aw} (h : ARow w B v xs) (k : Ex w w') : ARow w' B v xs := ⟨k.row h.row, fun i x hx => (h.ins i x hx).ext k⟩
theorem AN.len {w : World} {x : Aw} (h : AN w x) : x.C.length = 64 := Aw.len h.inn.raw.v.ok
theorem ARow.inn {w : World} {B : Nat} {v : Value} {xs : List Aw} (h : ARow w B v xs) : ∃ ad cap, v = .slice ad xs.length cap ∧ Awp.In ad cap xs w := by
  obtain ⟨⟨h1, ⟨hv, h0⟩ | ⟨g, cap, cur, rfl, hb, hh, hc, hm, hs, ht⟩⟩, hin⟩ := h
  · exact ⟨none, 0, by rw [h0]; exact hv, ⟨by rw [h0]; exact Nat.le_refl 0, fun _ => rfl, fun i x hx => (hin i x hx).inn, fun h => by omega⟩⟩
  refine ⟨some ⟨g, 0, none⟩, cap, rfl, ⟨hc, (fun h => by cases h), fun i x hx => (hin i x hx).inn, fun _ => ⟨g, 0, rfl, (show Bk w g 41 cur from hh).lt, fun i x hx j u hu => ?_⟩⟩⟩
  have hil : i < xs.length := (List.getElem?_eq_some_iff.1 hx).1
  have h6 : ∀ y ∈ xs, y.C.length = 64 := fun y hy => by obtain ⟨i9, hi9, e8⟩ := List.getElem_of_mem hy; exact (hin i9 y (by rw [List.getElem?_eq_getElem hi9, e8])).len
  have hj : j < 64 := by have := (List.getElem?_eq_some_iff.1 hu).1; rw [h6 x (List.mem_of_getElem? hx)] at this; exact this
  have h3 := awflat_at xs i j x h6 hx hj
  rw [← ht, hu, List.getElem?_take, if_pos (by omega)] at h3
  rw [(show Bk w g 41 cur from hh).cell, Nat.zero_add, ← Array.getElem?_toList]
  exact h3
theorem ARow.app {w w2 : World} {B : Nat} {v v' : Value} {xs : List Aw} {z : Aw} (h : ARow w B v xs) (k : Kt [41] B w w2) (hr : w2.ownsRow B 41 64 v' (xs.length + 1) (xs.flatMap Aw.C ++ z.C)) (hz : AN w z) : ARow w2 B v' (xs ++ [z]) :=
  ⟨by rw [List.length_append, List.flatMap_append]; simpa using hr, fun i x hx => by
    rcases List.mem_append.1 (List.mem_of_getElem? hx) with h1 | h1
    · obtain ⟨j, hj, e⟩ := List.getElem_of_mem h1
      exact (h.ins j x (by rw [List.getElem?_eq_getElem hj, e])).kt k (by decide)
    · rw [List.mem_singleton.1 h1]; exact hz.kt k (by decide)⟩
def zeroAw : Value := .agg (Aw.C ⟨0, 0, 0, 0, ⟨0, 0, 0, 0, ⟨0, 0, 0, 0, 0, 0, 0, nilB⟩, none, 0, []⟩, zeroRk⟩).toArray
theorem Try.infoAw : (Try.prog.info? 41).map (fun i => (i.zero, i.size, i.bytes)) = some (some zeroAw, 64, 320) := by kernel_rfl
theorem Try.infoKV9 : (Try.prog.info? 27).map (fun i => (i.zero, i.size, i.bytes)) = some (some (Kv.V ⟨0, 0, 0, 0, 0, 0, 0, nilB⟩), 8, 80) := by kernel_rfl
theorem Try.infoRC9 : (Try.prog.info? 39).map (fun i => (i.zero, i.size, i.bytes)) = some (some zeroRk.V, 47, 152) := by kernel_rfl
theorem Try.slKV : Try.prog.underlying 28 = some (.slice (Try.prog.elem 28)) := by kernel_rfl
theorem Try.szKV (w : World) : (sizeOf (Try.prog.elem 28)).run Try.prog w = .ok 8 w := by kernel_rfl
def rN : Nat → Rk
  | 0 => ⟨2, 3, 1, 2, zeroVt, none, 0, []⟩
  | 1 => ⟨3, 3, 0, 3, zeroVt, none, 0, []⟩
  | 2 => ⟨2, 3, 2, 4, zeroVt, none, 0, []⟩
  | _ => ⟨4, 3, 0, 4, zeroVt, none, 0, []⟩
def qN : Nat → Pa
  | 0 => ⟨1, 1, 0⟩
  | 1 => ⟨2, 2, 1⟩
  | 2 => ⟨1, 3, 0⟩
  | 3 => ⟨2, 4, 2⟩
  | _ => ⟨0, 4, 0⟩
theorem built_rN0 : Try.prog.built 39 [(0, .int .i64 2), (1, .int .i64 3), (2, .int .i64 1), (3, .int .u64 2)] = some (rN 0).C.toArray := by kernel_rfl
theorem built_rN1 : Try.prog.built 39 [(0, .int .i64 3), (1, .int .i64 3), (3, .int .u64 3)] = some (rN 1).C.toArray := by kernel_rfl
theorem built_rN2 : Try.prog.built 39 [(0, .int .i64 2), (1, .int .i64 3), (2, .int .i64 2), (3, .int .u64 4)] = some (rN 2).C.toArray := by kernel_rfl
theorem built_rN3 : Try.prog.built 39 [(0, .int .i64 4), (1, .int .i64 3), (3, .int .u64 4)] = some (rN 3).C.toArray := by kernel_rfl
theorem rN_in (j : Nat) (hj : j < 4) (w : World) : (rN j).In w := by
  rcases (show j = 0 ∨ j = 1 ∨ j = 2 ∨ j = 3 by omega) with rfl | rfl | rfl | rfl <;> exact ⟨by unfold i64; simp only [rN]; omega, by unfold i64; simp only [rN]; omega, by unfold i64; simp only [rN]; omega, by simp only [rN]; omega, ⟨zeroVt_ok, nilB_in _ _⟩, ⟨Nat.le_refl _, fun _ => rfl, fun i x hx => by simp [rN] at hx, fun h => absurd h (Nat.lt_irrefl 0)⟩, by simp [rN], fun i x hx => by simp [rN] at hx⟩
theorem rN_l (j : Nat) (hj : j < 4) : (rN j).ad = none ∧ (rN j).cap = 0 ∧ (rN j).l = [] := by
  rcases (show j = 0 ∨ j = 1 ∨ j = 2 ∨ j = 3 by omega) with rfl | rfl | rfl | rfl <;> exact ⟨rfl, rfl, rfl⟩
theorem rN_len (j : Nat) (hj : j < 4) : (rN j).C.length = 47 := by
  rcases (show j = 0 ∨ j = 1 ∨ j = 2 ∨ j = 3 by omega) with rfl | rfl | rfl | rfl <;> rfl
theorem rN_step {p p' : Nat → Pa} {C C' : Nat → List Vc} {E : Int} (j : Nat) (hj : j < 4) (h : StepC 0 3 p C (rN j) E p' C') (hp : p 3 = qN j) : E = 0 ∧ p' 3 = qN (j + 1) := by
  rcases (show j = 0 ∨ j = 1 ∨ j = 2 ∨ j = 3 by omega) with rfl | rfl | rfl | rfl
  · have hr : (rN 0).outR := ⟨⟨by decide, by decide, by decide, by decide, rfl⟩, by decide, by decide, rfl⟩
    have he : E = 0 := ((h.chk.k2 rfl).1 hr).trans (by show outE 0 3 (p 3) 1 2 = 0; rw [hp]; decide)
    exact ⟨he, by rw [(h.z2 he rfl).2.1]; exact updF_same _ _ _⟩
  · have hr : (rN 1).inR := ⟨⟨by decide, by decide, by decide, by decide, rfl⟩, rfl, Nat.zero_le _, fun i x hx => by simp [rN] at hx, fun i hi => absurd hi (Nat.not_lt_zero _)⟩
    have he : E = 0 := (((h.chk.k3 rfl).1 hr).1 (fun x hx => by simp [rN] at hx)).trans (by show inE (p 3) 3 = 0; rw [hp]; decide)
    exact ⟨he, by rw [(h.z3 he rfl).2.2.1]; exact updF_same _ _ _⟩
  · have hr : (rN 2).outR := ⟨⟨by decide, by decide, by decide, by decide, rfl⟩, by decide, by decide, rfl⟩
    have he : E = 0 := ((h.chk.k2 rfl).1 hr).trans (by show outE 0 3 (p 3) 2 4 = 0; rw [hp]; decide)
    exact ⟨he, by rw [(h.z2 he rfl).2.1]; exact updF_same _ _ _⟩
  have hr : (rN 3).doneR := ⟨⟨by decide, by decide, by decide, by decide, rfl⟩, rfl, rfl⟩
  have he : E = 0 := ((h.chk.k4 rfl).1 hr).trans (by show (if (p 3).role = 2 ∧ (p 3).ep = 4 then (0 : Int) else 26) = 0; rw [hp]; decide)
  exact ⟨he, by rw [(h.z4 he rfl).2.1]; exact updF_same _ _ _⟩
def r4C : List Value := (rN 0).C ++ ((rN 1).C ++ ((rN 2).C ++ (rN 3).C))
theorem r4C_at (j : Nat) (hj : j < 4) : (r4C.drop (j * 47)).take (rN j).C.length = (rN j).C := by
  rcases (show j = 0 ∨ j = 1 ∨ j = 2 ∨ j = 3 by omega) with rfl | rfl | rfl | rfl <;> rfl
theorem ld_rN {o : Oper} {a : Act} {w : World} {K : Act → World → Prop} {Q : Exit → Act → World → Prop} (x : Operand) (g j : Nat) (hj : j < 4) (ho : o.op = .load 39 x) (ha : a.eval x = .pointer (some ⟨g, j * 47, none⟩)) (h : Bk w g 39 r4C.toArray) (hk : K (a.put o.dst (rN j).V) w) : o.wp Try.prog a w K Q := by
  obtain ⟨dd, hd⟩ : ∃ d, Try.prog.underlying 39 = some d ∧ d.isRow = true := ⟨_, Try.underlying39, rfl⟩
  exact wp_ldp (C := r4C) (rN j).C x g (j * 47) dd ho ha h (r4C_at j hj) hd.1 hd.2 (by rw [Try.sizeRk, rN_len j hj]) hk
end Go.Proofs.Ytmjfnpmnhehnkaa
