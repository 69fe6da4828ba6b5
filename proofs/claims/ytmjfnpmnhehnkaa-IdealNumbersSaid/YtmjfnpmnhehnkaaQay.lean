/- Uk, Vz, FlC -/
import Derived.Test.YtmjfnpmnhehnkaaQax
import Derived.Lib.SlBytesConst
namespace Go.Proofs.Ytmjfnpmnhehnkaa
open Go.RowKit
set_option maxHeartbeats 8000000 in
set_option maxRecDepth 100000 in
theorem known23 (w : World) : Calls Try.prog 37 #[] w fun e w' => e = .returned (.bool true) ∧ Ex w w' := by
 have hcv := fun (w : World) (C : Array Value) (n c : Nat) => Lib.run_convert_bytes_const (P := Try.prog) w 25 5 C n c Try.underlying25 Try.underlying5
 go_enter Try.func37, Try.ntmps37
 go_wp2_with ((with_reducible refine so0 ?_ ?_); (focus rfl))
 refine (inew_any w).mono ?_
 rintro e w1 ⟨M, D, r, v, rfl, h1, h2, h3, h4⟩
 have HIM := Lib.hid h1
 have HM := Lib.hid h2
 have HV := Lib.hid h3
 have BW := Lib.hid h4
 clear h1 h2 h3 h4
 go_wp2_with ((with_reducible refine so0 ?_ ?_); (focus rfl))
 (with_reducible refine at9 ?_ ?_); (focus go_simp); refine fun K0 hK => wp_build _ _ rfl _ k3bi (hK _ _ ?_)
 clear hK
 go_wp2_with ((with_reducible refine so0 ?_ ?_); (focus rfl))
 (with_reducible refine ⟨?_⟩)
 change wpList _ _ _ _ _ (w1.alloc (.cells #[.int .u8 115] 5 (1, 2)))
 have I0 : Hid ((w1.alloc (.cells #[.int .u8 115] 5 (1, 2))).heap[w1.heap.size]? = some (.cells #[.int .u8 115] 5 (1, 2))) := Lib.hid (by unfold World.alloc; exact Array.getElem?_push_size)
 have xa : Ex w1 (w1.alloc (.cells #[.int .u8 115] 5 (1, 2))) := Ex.alloc w1 _
 generalize hw2 : (w1.alloc (.cells #[.int .u8 115] 5 (1, 2))) = w2 at *
 obtain ⟨g, hg⟩ : ∃ g, g = w1.heap.size := ⟨_, rfl⟩
 rw [← hg] at I0 ⊢
 clear hw2 hcv hg
 replace HIM := Lib.hid (HIM.out.ext xa)
 replace BW := Lib.hid (Ex.trans BW.out xa)
 clear xa
 go_wp2_with ((with_reducible refine so0 ?_ ?_); (focus rfl))
 (with_reducible refine at9 ?_ ?_); (focus go_simp); refine fun K0 hK => wp_build _ _ rfl _ (k3b g) (hK _ _ ?_)
 clear hK
 go_wp2_with ((with_reducible refine so0 ?_ ?_); (focus rfl))
 (with_reducible refine at9 ?_ ?_); (focus go_simp); refine fun K0 hK => st_q _ _ w2.heap.size (k3q g) rfl rfl rfl (k3q_ok g) (Bk.new rfl _ _) (by rfl) (fun w3 hd ho => hK _ _ ?_)
 clear hK
 have x3 : Ex w2 w3 := ho.below w2.heap.size (Nat.le_refl _) w2 (Ex.alloc w2 _)
 have Q1 := Lib.hid hd
 replace HIM := Lib.hid (HIM.out.ext x3)
 replace I0 := Lib.hid (x3.obj9 I0.out)
 replace BW := Lib.hid (Ex.trans BW.out x3)
 obtain ⟨g1, hg⟩ : ∃ g, g = w2.heap.size := ⟨_, rfl⟩
 rw [← hg] at Q1 ⊢
 clear hd ho x3 hg
 go_wp2_with fail
 obtain ⟨s, hs, hs16⟩ := shv_range (k3q g).id
 have HS := Lib.hid hs
 clear hs
 have HK : Hid (K5 w M D s g g1 false false false false false undef undef w3) := Lib.hid ⟨BW.out, I0.out, Q1.out, ⟨r, v, HIM.out, fun _ => HV.out, fun e => by cases e⟩, (fun e => by cases e), (fun e => by cases e), fun e => by cases e⟩
 have hS0 : ∀ (listed : Array Bool) (f : Nat → Value), (∀ i, listed.getD i false = false) → S5 w M D s g g1 listed f w3.drew := fun listed f h0 => by
  have h := K5.grow HK.out ((Below.refl w3.heap.size w3).drew : Ex w3 w3.drew)
  unfold S5
  rw [h0 2, h0 6, h0 7, h0 8, h0 9]
  exact { h with a6 := (fun e => by cases e), a7 := (fun e => by cases e), ne := fun e => by cases e }
 clear HK HIM HV I0 Q1 BW
 obtain ⟨T, hT⟩ : ∃ T : List (Value → Prop), T = [(fun zz => zz = .pointer (some ⟨M, 0, none⟩)), (fun zz => zz = (k3q g).V), (fun x => ∃ y : Rt, x = y.V ∧ y.Ok ∧ Y1 y), (fun zz => zz = .pointer (some ⟨M, 0, none⟩)), (fun zz => zz = (k3q g).V), (fun x => ∃ y : Rt, x = y.V ∧ y.Ok ∧ Y2 y), (fun _ => True), (fun _ => True), (fun _ => True), (fun _ => True)] := ⟨_, rfl⟩
 refine wp_region_gen (JS T ([(8, 6), (9, 7)] : List (Nat × Nat)) (S5 w M D s g g1)) (by kernel_rfl) (by kernel_rfl) (by kernel_rfl) (fitB_spec (by kernel_rfl)) (fun listed f h => JS.start listed f h (hS0 listed f h)) ?_ ?_
 ·intro i o ho
  have hi : i < 10 := (Array.getElem?_eq_some_iff.1 ho).1
  have hi' : i = 0 ∨ i = 1 ∨ i = 2 ∨ i = 3 ∨ i = 4 ∨ i = 5 ∨ i = 6 ∨ i = 7 ∨ i = 8 ∨ i = 9 := by omega
  clear hi
  rcases hi' with rfl | rfl | rfl | rfl | rfl | rfl | rfl | rfl | rfl | rfl
  all_goals (simp only [List.getElem?_toArray, List.getElem?_cons_zero, List.getElem?_cons_succ, Option.some.injEq] at ho; subst ho; intro listed f a w4 hJ hsz hls hun hdep hout hlat; first | (rw [if_pos (by rfl)]; intro K hK) | skip)
  ·have q1 := hout 1 (outB_spec (by kernel_rfl))
   refine wp_mv _ rfl (hK _ _ ?_)
   rw [show a.eval (.tmp 1) = .pointer (some ⟨M, 0, none⟩) from q1]
   exact hJ.next (by rw [hls]; decide) (by rw [hT]; rfl) (S5.plain hJ.st 0 (by decide) (Ex.refl _)) (no_head (by decide))
  ·have q2 := hout 2 (outB_spec (by kernel_rfl))
   exact ld_q _ g1 (k3q g) rfl q2 (K5.q hJ.st) (hK _ _ (hJ.next (by rw [hls]; decide) (by rw [hT]; rfl) (S5.plain hJ.st 1 (by decide) (Ex.refl _)) (no_head (by decide))))
  ·have q13 := hJ.iq hT (hdep ⟨0, .data⟩ (by simp) rfl) rfl _ rfl _ rfl
   have q14 := hJ.iq hT (hdep ⟨1, .data⟩ (by simp) rfl) rfl _ rfl _ rfl
   have hk := hJ.st
   unfold S5 at hk
   rw [hun] at hk
   obtain ⟨r2, v2, him, hv0, _⟩ := hk.im
   clear hsz hdep hout hlat
   go_simp
   refine (ido_any w.heap.size M D r2 v2 (k3q g) s HS.out hs16 w4 him HM.out hk.secp).mono ?_
   rintro e w5 ⟨y, r3, v3, rfl, hy, _, him3, hst, htc⟩
   obtain ⟨y1, y2, z, hz, rfl⟩ := k3_step1 (hv0 rfl) hs16 hst
   exact hK _ _ (hJ.next (by rw [hls]; decide) (by rw [hT]; exact ⟨y, rfl, hy, y1, y2⟩) (S5.s2 (by rw [hls]; decide) (hk.turn hs16 him htc him3 ⟨z, hz, updF_same _ _ _, fun i hi hne => by rw [updF_ne _ _ hne]; exact hv0 rfl i hi⟩)) (no_head (by decide)))
  ·have q1 := hout 1 (outB_spec (by kernel_rfl))
   refine wp_mv _ rfl (hK _ _ ?_)
   rw [show a.eval (.tmp 1) = .pointer (some ⟨M, 0, none⟩) from q1]
   exact hJ.next (by rw [hls]; decide) (by rw [hT]; rfl) (S5.plain hJ.st 3 (by decide) (Ex.refl _)) (no_head (by decide))
  ·have q2 := hout 2 (outB_spec (by kernel_rfl))
   exact ld_q _ g1 (k3q g) rfl q2 (K5.q hJ.st) (hK _ _ (hJ.next (by rw [hls]; decide) (by rw [hT]; rfl) (S5.plain hJ.st 4 (by decide) (Ex.refl _)) (no_head (by decide))))
  ·have q16 := hJ.iq hT (hdep ⟨3, .data⟩ (by simp) rfl) rfl _ rfl _ rfl
   have q17 := hJ.iq hT (hdep ⟨4, .data⟩ (by simp) rfl) rfl _ rfl _ rfl
   have hl2 := (hdep ⟨2, .chain⟩ (by simp) rfl).1
   have hk := hJ.st
   unfold S5 at hk
   rw [hl2] at hk
   obtain ⟨r2, v2, him, _, hv0⟩ := hk.im
   obtain ⟨z, hz, hzs, hz0⟩ := hv0 rfl
   clear hsz hdep hout hlat
   go_simp
   refine (ido_any w.heap.size M D r2 v2 (k3q g) s HS.out hs16 w4 him HM.out hk.secp).mono ?_
   rintro e w5 ⟨y, r3, v3, rfl, hy, _, him3, hst, htc⟩
   obtain ⟨y1, rfl⟩ := k3_step2 hz hzs hst
   exact hK _ _ (hJ.next (by rw [hls]; decide) (by rw [hT]; exact ⟨y, rfl, hy, y1⟩) (S5.s5 (by rw [hl2]; exact hk.turn hs16 him htc him3 ⟨z, hz, hzs, hz0⟩)) (no_head (by decide)))
  ·have hl8 : listed.getD 8 false = false := by
    cases hc : listed.getD 8 false with
    | false => rfl
    | true => exact absurd (hJ.ord (8, 6) (by simp) hc) (by rw [hun]; decide)
   clear hsz hdep hout hlat
   go_simp
   exact hK _ _ (hJ.next (by rw [hls]; decide) (by rw [hT]; trivial) (S5.s6 (by rw [hls]; decide) (K5.new6 hJ.st hl8)) (no_head (by decide)))
  ·have hl9 : listed.getD 9 false = false := by
    cases hc : listed.getD 9 false with
    | false => rfl
    | true => exact absurd (hJ.ord (9, 7) (by simp) hc) (by rw [hun]; decide)
   clear hsz hdep hout hlat
   go_simp
   exact hK _ _ (hJ.next (by rw [hls]; decide) (by rw [hT]; trivial) (S5.s7 (by rw [hls]; decide) (K5.new7 hJ.st hl9)) (no_head (by decide)))
  ·have dd3 := hdep ⟨6, .data⟩ (by simp) rfl
   have q3 := dd3.2 _ rfl _ rfl
   have dd15 := hdep ⟨2, .data⟩ (by simp) rfl
   have q15 := dd15.2 _ rfl _ rfl
   have h15 := hJ.vals 2 dd15.1
   rw [hT] at h15
   have h15 : (fun x => ∃ y : Rt, x = y.V ∧ y.Ok ∧ Y1 y) (f 2) := h15
   obtain ⟨y15, e15, k15, p15⟩ := h15
   rw [e15] at q15
   clear dd15
   have hl6 := (hdep ⟨6, .data⟩ (by simp) rfl).1
   have hord : ∀ x ∈ ([(8, 6), (9, 7)] : List (Nat × Nat)), x.1 = 8 → listed.getD x.2 false = true := (by intro x hx he; simp only [List.mem_cons, List.not_mem_nil, or_false] at hx; rcases hx with rfl | rfl; all_goals first | (exact absurd he (by decide)) | assumption)
   have hl := (hdep ⟨6, .data⟩ (by simp) rfl).1
   have hk := hJ.st
   unfold S5 at hk
   rw [hl] at hk
   obtain ⟨h6, y6, e6, lo6, b6, _⟩ := hk.a6 rfl
   rw [e6] at hk q3
   refine st_r _ _ h6 y15 rfl q3 q15 k15 b6.2 (by rw [List.size_toArray, Rt.len b6.1]) (fun w5 hd ho => ?_)
   exact hK _ _ (hJ.next (by rw [hls]; decide) (by rw [hT]; trivial) (S5.s8 (by rw [hls]; decide) (by rw [hl, e6]; exact hk.st6 b6 ho hd p15 lo6)) hord)
  have dd4 := hdep ⟨7, .data⟩ (by simp) rfl
  have q4 := dd4.2 _ rfl _ rfl
  have dd18 := hdep ⟨5, .data⟩ (by simp) rfl
  have q18 := dd18.2 _ rfl _ rfl
  have h18 := hJ.vals 5 dd18.1
  rw [hT] at h18
  have h18 : (fun x => ∃ y : Rt, x = y.V ∧ y.Ok ∧ Y2 y) (f 5) := h18
  obtain ⟨y18, e18, k18, p18⟩ := h18
  rw [e18] at q18
  clear dd18
  have hl7 := (hdep ⟨7, .data⟩ (by simp) rfl).1
  have hord : ∀ x ∈ ([(8, 6), (9, 7)] : List (Nat × Nat)), x.1 = 9 → listed.getD x.2 false = true := (by intro x hx he; simp only [List.mem_cons, List.not_mem_nil, or_false] at hx; rcases hx with rfl | rfl; all_goals first | (exact absurd he (by decide)) | assumption)
  have hl := (hdep ⟨7, .data⟩ (by simp) rfl).1
  have hk := hJ.st
  unfold S5 at hk
  rw [hl] at hk
  obtain ⟨h6, y6, e6, lo6, b6, _⟩ := hk.a7 rfl
  rw [e6] at hk q4
  refine st_r _ _ h6 y18 rfl q4 q18 k18 b6.2 (by rw [List.size_toArray, Rt.len b6.1]) (fun w5 hd ho => ?_)
  exact hK _ _ (hJ.next (by rw [hls]; decide) (by rw [hT]; trivial) (S5.s9 (by rw [hls]; decide) (by rw [hl, e6]; exact hk.st7 b6 ho hd p18 lo6)) hord)
 intro listed f w4 hall hJ
 have hst := hJ.st
 simp only [putAll, Act.put, List.setIfInBounds_toArray, List.set_cons_zero, List.set_cons_succ, Nat.zero_add, Nat.reduceAdd]
 unfold S5 at hst
 rw [hall 2 (by simp), hall 6 (by simp), hall 7 (by simp), hall 8 (by simp), hall 9 (by simp)] at hst
 obtain ⟨h6, u6, e6, lo6, b6, p6⟩ := hst.a6 rfl
 obtain ⟨h7, u7, e7, lo7, b7, p7⟩ := hst.a7 rfl
 rw [e6, e7]
 have n67 : h6 ≠ h7 := fun e => hst.ne rfl rfl (by rw [e6, e7, e])
 obtain ⟨r2, v2, him, _, hv0⟩ := hst.im
 obtain ⟨z, hz, hzs, hz0⟩ := hv0 rfl
 have BW := Lib.hid hst.ext
 have R6 := Lib.hid b6
 have R7 := Lib.hid b7
 have P6 := Lib.hid (p6 rfl)
 have P7 := Lib.hid (p7 rfl)
 have HIM := Lib.hid him
 have HZ := Lib.hid (show OneK v2 s from ⟨z, hz, hzs, hz0⟩)
 clear hst e6 e7 b6 b7 p6 p7 him hv0 hz hzs hz0 lo6 lo7
 clear hJ hall hT
 go_wp2_with ((with_reducible refine so0 ?_ ?_); (focus rfl))
 (with_reducible refine at9 ?_ ?_); (focus go_simp); refine fun K0 hK => wp_build _ _ rfl _ k3b2 (hK _ _ ?_)
 clear hK
 go_wp2_with ((with_reducible refine so0 ?_ ?_); (focus rfl))
 (with_reducible refine at9 ?_ ?_); (focus go_simp); refine fun K0 hK => wp_build _ _ rfl _ k3br (hK _ _ ?_)
 clear hK
 go_wp2_with ((with_reducible refine so0 ?_ ?_); (focus rfl))
 obtain ⟨s2, hs2, hs216⟩ := shv_range k3r.id
 refine (ido_any w.heap.size M D r2 v2 k3r s2 hs2 hs216 w4 HIM.out HM.out ⟨k3r_ok, nilB_in _ _⟩).mono ?_
 rintro e w5 ⟨y3, r3, v3, rfl, hy3, _, him3, hst3, htc⟩
 obtain ⟨z2, hz, hzs, hz0⟩ := HZ.out
 have hv3 : v2 s2 = [] ∨ v2 s2 = [z2] := by
  by_cases e : s2 = s
  ·rw [e]; exact Or.inr hzs
  exact Or.inl (hz0 s2 hs216 e)
 obtain ⟨y31, rfl⟩ := k3_step3 hz hv3 hst3
 have ht := HIM.out.ts.tb s2 hs216
 replace BW := Lib.hid (htc.ex9 ht BW.out (HIM.out.ts.lo s2 hs216))
 replace R6 : Hid (RB w5 h6 u6) := Lib.hid ⟨R6.out.1, htc.kt9 ht R6.out.2 (by decide) (by decide)⟩
 replace R7 : Hid (RB w5 h7 u7) := Lib.hid ⟨R7.out.1, htc.kt9 ht R7.out.2 (by decide) (by decide)⟩
 replace HIM := Lib.hid him3
 have HN := Lib.hid (allV_one hs16 (by rw [hzs]; rfl) hz0 16 (Nat.le_refl _))
 rw [if_pos hs16] at HN
 have Y3 := Lib.hid hy3
 have W3 := Lib.hid y31
 clear hst3 hv3 ht htc him3 hz hzs hz0 HZ hs2 hy3 y31
 go_wp2_with ((with_reducible refine so0 ?_ ?_); (focus rfl))
 (with_reducible refine at9 ?_ ?_); (focus go_simp); refine fun K0 hK => st_r _ _ w5.heap.size y3 rfl rfl rfl Y3.out (Bk.new rfl _ _) (by rfl) (fun w6 hd ho => hK _ _ ?_)
 clear hK
 have x3 : Ex w5 w6 := ho.below w5.heap.size (Nat.le_refl _) w5 (Ex.alloc w5 _)
 have R8 := Lib.hid hd
 replace HIM := Lib.hid (HIM.out.ext x3)
 replace R6 := Lib.hid (R6.out.ext x3)
 replace R7 := Lib.hid (R7.out.ext x3)
 replace BW := Lib.hid (Ex.trans BW.out x3)
 obtain ⟨h8, hg⟩ : ∃ g, g = w5.heap.size := ⟨_, rfl⟩
 rw [← hg] at R8 ⊢
 clear hd ho x3 hg
 have c6 := RB.cells R6.out
 have c7 := RB.cells R7.out
 have c8 := RB.cells R8.out
 rw [P6.out.1, P6.out.2] at c6
 rw [show u7.why = 14 from P7.out] at c7
 rw [show y3.why = 22 from W3.out] at c8
 obtain ⟨c60, c61, -⟩ := c6
 obtain ⟨c70, -⟩ := c7
 obtain ⟨c80, -⟩ := c8
 go_wp2_with ((with_reducible refine so0 ?_ ?_); (focus rfl))
 refine (iall_any w.heap.size M D r3 v3 w6 HIM.out).mono ?_
 rintro e w7 ⟨va, ys, rfl, hys, hym, x7⟩
 have hyl : ys.length = 1 := by have h := congrArg List.length hym; rw [List.length_map, List.length_map] at h; rw [h]; exact HN.out
 replace BW := Lib.hid (Ex.trans BW.out x7)
 obtain ⟨ad, cap, rfl, _⟩ := hys.inn
 rw [hyl]
 clear hys hym x7 c60 c61 c70 c80 HN
 go_wp2_with fail
 go_ret
 exact ⟨rfl, BW.out⟩
end Go.Proofs.Ytmjfnpmnhehnkaa
namespace Go.Proofs.Ytmjfnpmnhehnkaa
open Go.RowKit
def DigPost (n : Nat) (w : World) (e : Ending) (w' : World) : Prop := ∃ d : List UInt8, e = .returned (digV d) ∧ d.length = n ∧ Ex w w'
theorem u8_of (a : Int) : ∃ x : UInt8, (x.toNat : Int) = a % 256 := by
 refine ⟨UInt8.ofNat (a % 256).toNat, ?_⟩
 rw [UInt8.toNat_ofNat_of_lt' (by have := Int.emod_lt_of_pos a (show (0:Int) < 256 by decide); have := Int.emod_nonneg a (show (256:Int) ≠ 0 by decide); show (a % 256).toNat < 256; omega)]
 have := Int.emod_nonneg a (show (256:Int) ≠ 0 by decide)
 omega
theorem built_d (x y : UInt8) : Try.prog.built 34 [(0, .int .u8 x.toNat), (1, .int .u8 y.toNat), (2, .int .u8 3)] = some (Lib.byteCells [x, y, 3, 0, 0, 0, 0, 0, 0, 0, 0, 0, 0, 0, 0, 0]).toArray := by kernel_rfl
theorem st_new {o : Oper} {a : Act} {w : World} {K : Act → World → Prop} {Q : Exit → Act → World → Prop} {ty : TypeId} (x y : Operand) (g : Nat) (L : List UInt8) (C : Array Value) (ho : o.op = .store ty x y) (ha : a.eval x = .pointer (some ⟨g, 0, none⟩)) (hy : a.eval y = digV L) (hB : Bk w g ty C) (hC : C.size = L.length)
  (hs : (Try.prog.info? ty).map (·.size) = some L.length) (hk : ∀ w', Bk w' g ty (Lib.byteCells L).toArray → Only g w w' → K (a.put o.dst undef) w') : o.wp Try.prog a w K Q := by
 have hB' : Bk w g ty C.toList.toArray := by simpa using hB
 refine wp_stp (Lib.byteCells L) x y g 0 ho ha hy hB' (by rw [byteCells_len]; simp; omega) (by rw [byteCells_len]; exact hs) (bytes_one L) (fun w' h1 h2 => hk w' ?_ h2)
 have e : C.toList.take 0 ++ Lib.byteCells L ++ C.toList.drop (0 + (Lib.byteCells L).length) = Lib.byteCells L := by
  rw [List.take_zero, List.nil_append, List.drop_eq_nil_of_le (by rw [byteCells_len]; simp; omega), List.append_nil]
 rw [e] at h1; exact h1
theorem res_dig {fn : Func} {a : Tmp} {ty : TypeId} (h : fn.results = #[.cell a ty]) (tmps : Array Value) (w : World) (g : Nat) (ha : tmps.getD a undef = .pointer (some ⟨g, 0, none⟩)) {L : List UInt8} (hB : Bk w g ty (Lib.byteCells L).toArray) {dd : TypeDesc} (hu : Try.prog.underlying ty = some dd) (hr : dd.isRow = true) (hs : (Try.prog.info? ty).map (·.size) = some L.length) :
  (results fn tmps).run Try.prog w = .ok (digV L) w := res_row1 h tmps w g ha hB hu hr (by rw [byteCells_len]; exact hs)
set_option maxHeartbeats 4000000 in
set_option maxRecDepth 100000 in
theorem d_any (n : Int) (hn : -9223372036854775808 ≤ n ∧ n ≤ 9223372036854775807) (w : World) : Calls Try.prog 68 #[.int .i64 n] w (DigPost 16 w) := by
 obtain ⟨n0, n1⟩ := hn
 obtain ⟨x, hx⟩ := u8_of n
 have HX := Lib.hid hx
 obtain ⟨y, hy⟩ := u8_of (n / 256)
 have HY := Lib.hid hy
 clear hx hy
 go_enter Try.func68, Try.ntmps68
 go_wp2_with ((with_reducible refine so0 ?_ ?_); (focus rfl))
 (with_reducible refine at9 ?_ ?_); (focus go_simp); refine fun K0 hK => wp_build _ _ rfl _ ((show Try.prog.built 34 [(0, .int .u8 (n % 256)), (1, .int .u8 (n / 256 % 256)), (2, .int .u8 3)] = some (Lib.byteCells [x, y, 3, 0, 0, 0, 0, 0, 0, 0, 0, 0, 0, 0, 0, 0]).toArray from by rw [← HX.out, ← HY.out]; exact built_d x y)) (hK _ _ ?_)
 clear hK
 go_wp2_with ((with_reducible refine so0 ?_ ?_); (focus rfl))
 (with_reducible refine at9 ?_ ?_); (focus go_simp); refine fun K0 hK => st_new _ _ w.heap.size [x, y, 3, 0, 0, 0, 0, 0, 0, 0, 0, 0, 0, 0, 0, 0] _ rfl rfl rfl (Bk.new rfl _ _) rfl Try.sizeDig (fun w3 hd ho => hK _ _ ?_)
 clear hK
 have X := ho.below w.heap.size (Nat.le_refl _) w (Ex.alloc w _)
 clear ho
 go_wp2_with fail
 exact bodyPost_ret (res_dig rfl _ _ w.heap.size rfl hd Try.underlying34 rfl Try.sizeDig) rfl ⟨_, rfl, rfl, X⟩
def i64 (n : Int) : Prop := -9223372036854775808 ≤ n ∧ n ≤ 9223372036854775807
end Go.Proofs.Ytmjfnpmnhehnkaa
namespace Go.Proofs.Ytmjfnpmnhehnkaa
open Go.RowKit
section
variable {P : Program} {ops : Array Oper} {Q : Exit → Act → World → Prop} {a0 : Act} {w0 : World} {φ : Nat → Value → World → Prop}
def nextB (ops : Array Oper) (N : Nat) : Bool := match ops[N + 1]? with
  | none => false
  | some o => o.after.toList.any fun e => Region.binds .any e && e.on == N
theorem wpOp_do {N : Nat} {o : Oper} {K : Act → World → Prop} {a : Act} {w : World} (ho : ops[N]? = some o) (hw : Region.wanted o (yielded ops a.tmps) = true) (h : o.wp P a w K Q) : wpOp P ops Q N K a w := by
  unfold wpOp
  simp only [ho]
  rw [if_pos hw]
  exact .inl h
end
end Go.Proofs.Ytmjfnpmnhehnkaa
