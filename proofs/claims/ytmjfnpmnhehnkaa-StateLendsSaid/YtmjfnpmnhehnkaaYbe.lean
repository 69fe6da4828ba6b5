/- Sv, Sj, Sw -/
import Derived.Test.YtmjfnpmnhehnkaaYbd
import Derived.ChangeSlices
import Derived.Deep.Slices
import Derived.Deep.Fields
import Derived.OpenShut
namespace Go.Proofs.Ytmjfnpmnhehnkaa
open Go.RowKit
theorem apart_new {w w' : World} {B M B2 M2 : Nat} {m n m2 n2 : Int} {p p2 : Nat → Pa} {D D2 : Nat → Nat} {r r2 : Nat → Value} {v v2 : Nat → List Vt} (h : SS w B M m n p D r v) (h2 : SS w' B2 M2 m2 n2 p2 D2 r2 v2) (hB : w.heap.size ≤ B2) : Apart D r D2 r2 := by
  refine ⟨fun i j hi hj e => ?_, fun i j hi hj g hg hg2 => ?_⟩
  · have h3 := (h.ts.tb i hi).blk.lt
    have h4 := h2.ts.lo j hj
    omega
  have h3 := ((h.ts.tb i hi).row.row.lt g hg).2
  have h4 := ((h2.ts.tb j hj).row.row.lt g hg2).1
  have h5 := h2.ts.lo j hj
  omega
theorem djn_new {w w' : World} {B M : Nat} {m n : Int} {p : Nat → Pa} {D : Nat → Nat} {r : Nat → Value} {v : Nat → List Vt} {tv : Value} {us : List Vt} (h : SS w B M m n p D r v) (h2 : VRow w' w.heap.size tv us) : ∀ i, i < 16 → Djn tv (r i) := fun i hi g h3 h4 => by
  have h5 := (h2.row.lt g h3).1
  have h6 := ((h.ts.tb i hi).row.row.lt g h4).2
  omega
def NL (p : Nat → Pa) (s : Nat) : Prop := ∀ i, i < 16 → i ≠ s → (p i).role ≠ 2
theorem NL.new (m n : Int) (s : Nat) : NL (newP m n) s := fun i _ _ => by unfold newP; simp only; split <;> decide
theorem NL.upd {p : Nat → Pa} {s : Nat} (h : NL p s) (q : Pa) : NL (updF p s q) s := fun i hi hne => by rw [updF_ne _ _ hne]; exact h i hi hne
theorem lent_lt {p : Nat → Pa} {s : Nat} (h : NL p s) (q : Pa) : ∀ k, k ≤ 16 → lentL (updF p s q) k = if q.role = 2 ∧ s < k then [s] else [] := by
  intro k
  induction k with
  | zero => intro _; rw [if_neg (by omega)]; rfl
  | succ k ih =>
    intro hk
    rw [lentL_succ, ih (by omega)]
    by_cases e : k = s
    · subst e
      rw [updF_same]
      by_cases h2 : q.role = 2
      · rw [if_pos h2, if_neg (by omega), if_pos ⟨h2, Nat.lt_succ_self _⟩]; rfl
      · rw [if_neg h2, if_neg (by omega), if_neg (by omega)]
    · rw [updF_ne _ _ e, if_neg (h k (by omega) e)]
      by_cases h3 : q.role = 2 ∧ s < k
      · rw [if_pos h3, if_pos ⟨h3.1, by omega⟩]
      · rw [if_neg h3, if_neg (by omega)]
theorem lent_one {p : Nat → Pa} {s : Nat} (h : NL p s) (hs : s < 16) (q : Pa) (hq : q.role = 2) : lentL (updF p s q) 16 = [s] := by rw [lent_lt h q 16 (Nat.le_refl _), if_pos ⟨hq, hs⟩]
theorem lent_none {p : Nat → Pa} {s : Nat} (h : NL p s) (hq : (p s).role ≠ 2) : lentL p 16 = [] := by
  have e : updF p s (p s) = p := updF_id p s
  rw [← e, lent_lt h (p s) 16 (Nat.le_refl _), if_neg (fun h => hq h.1)]
structure FF (s : Nat) (e : Int) (us : List Vt) (p pw : Nat → Pa) (v : Nat → List Vt) : Prop where
  a : p s = ⟨1, e, 0⟩
  b : pw s = ⟨0, e, 0⟩
  na : NL p s
  nb : NL pw s
  c : (v s).map Vt.ct = us.map Vt.ct
theorem outE01 : (0 : Int) = outE 0 2 ⟨1, 1, 0⟩ 1 2 := by decide
theorem outE12 : (0 : Int) = outE 1 2 ⟨1, 2, 0⟩ 0 3 := by decide
theorem inE2 : (0 : Int) = inE ⟨0, 1, 0⟩ 2 := by decide
theorem inE3 : (0 : Int) = inE ⟨0, 2, 0⟩ 3 := by decide
theorem rkO_R {s t e : Int} (h0 : 0 ≤ s) (h1 : s < 16) (h2 : 0 ≤ t) (h3 : t < 8) (h4 : 1 ≤ e) (h5 : e ≤ 10) : (rkO s t e).outR := ⟨⟨h0, h1, h4, by show e ≤ _; omega, rfl⟩, h2, h3, rfl⟩
theorem rkI_R {s e : Int} {ad : Option Addr} {cap : Nat} {l : List Vt} (h0 : 0 ≤ s) (h1 : s < 16) (h4 : 1 ≤ e) (h5 : e ≤ 10) (hr : Rising l) : (rkI s e ad cap l).inR := ⟨⟨h0, h1, h4, by show e ≤ _; omega, rfl⟩, rfl, hr⟩
theorem rkD_R {s e : Int} (h0 : 0 ≤ s) (h1 : s < 16) (h4 : 1 ≤ e) (h5 : e ≤ 10) : (rkD s e).doneR := ⟨⟨h0, h1, h4, by show e ≤ _; omega, rfl⟩, rfl, rfl⟩
set_option maxHeartbeats 8000000 in
set_option maxRecDepth 100000 in
theorem lends_any (ad : Option Addr) (cap : Nat) (l : List Kv) (t : Int) (ht : i64 t) (w : World) (hL : l.length ≤ 9223372036854775807) (hin : Kvp.In ad cap l w) : Calls Try.prog 6 #[.slice ad l.length cap, .int .i64 t] w fun e w' => e = .returned (.bool true) ∧ Ex w w' := by
  have HIN := Hi hin
  have HL := Hi hL
  have HT := Hi ht
  clear hin hL ht
  obtain ⟨n, hn⟩ : ∃ n, n = l.length := ⟨_, rfl⟩
  rw [← hn] at HL ⊢
  have HN := Hi hn
  clear hn
  go_enter Try.func6, Try.ntmps6
  go_wp2_with fail
  refine (snew_any 0 2 w (by decide)).mono ?_
  rintro e w1 ⟨M, D, r, v, rfl, h1, h2, h3, h4⟩
  have HS := Hi h1
  have HM := Hi h2
  have HV := Hi h3
  have BW := Hi h4
  clear h1 h2 h3 h4
  go_wp2_with fail
  refine (snew_any 1 2 w1 (by decide)).mono ?_
  rintro e w2 ⟨M2, D2, r2, v2, rfl, h1, h2, h3, h4⟩
  have HA := Hi (apart_new HS.out h1 (Nat.le_refl _))
  have HMM : Hid (M < w1.heap.size) := Hi HS.out.blk.lt
  replace HS := Hi (HS.out.ext h4)
  have HS2 := Hi h1
  have HM2 := Hi h2
  have HZ1 := Hi (Below.size BW.out)
  replace BW := Hi (Ex.trans BW.out h4)
  clear h1 h2 h3 h4
  go_wp2_with fail
  refine (within_any t 0 7 HT.out (by omega) (by omega) (by omega) w2).mono ?_
  rintro e w3 ⟨mm, rfl, hm0, hm7, rfl⟩
  obtain ⟨s0, rfl⟩ : ∃ s0 : Nat, mm = (s0 : Int) := ⟨mm.toNat, by omega⟩
  go_wp2_with fail
  obtain ⟨s, hs⟩ : ∃ s : Nat, (s : Int) = (s0 : Int) * 2 := ⟨s0 * 2, by omega⟩
  rw [← hs]
  have hs16 : s < 16 := by omega
  have hse : (s : Int) % 2 = 0 := by omega
  have HSE := Hi hse
  clear hs hm0 hm7 hse
  go_wp2_with fail
  have CK := keepvs_any ad cap l (s : Int) (by unfold i64; omega) w2 (by rw [← HN.out]; exact HL.out) (HIN.out.ext BW.out)
  rw [← HN.out] at CK
  refine CK.mono ?_
  clear CK
  rintro e w3 ⟨tv, us, rfl, hrow, h4, hid, hr, x3⟩
  have UO := Hi (usok_of h4 hid hr)
  clear hid hr
  have LL : Hid (LV w w3 w3 w.heap.size M 0 (newP 0 2) D r v w1.heap.size M2 1 (newP 1 2) D2 r2 v2 tv us) := Hi ⟨⟨HS.out.ts.ext x3, HS2.out.ext x3, HA.out, hrow.less (Below.size BW.out), djn_new HS.out hrow, djn_new HS2.out hrow, Ex.trans BW.out x3, Nat.le_refl _, fun _ _ h => h⟩, HS.out.ext x3, (by have h1 := HMM.out; have h2 := HM2.out; omega), HM.out, Nat.le_trans HZ1.out HM2.out, HZ1.out⟩
  have HC : Hid ((v s).map Vt.ct = (us.take 0).map Vt.ct) := Hi (by rw [HV.out s hs16]; rfl)
  clear hrow x3 HS HS2 HA HM HM2 HMM HZ1 BW HV HIN HL
  obtain ⟨adU, capU, rfl, _, hcU⟩ := LL.out.o.row.inn3
  obtain ⟨q, hq⟩ : ∃ q, q = us.length := ⟨_, rfl⟩
  rw [← hq] at LL h4 ⊢
  have HQ := Hi hq
  clear hq
  go_wp2_with fail
  obtain ⟨wb, hwb⟩ : ∃ wb, wb = w3 := ⟨_, rfl⟩
  rw [show LV w w3 w3 = LV w wb w3 by rw [hwb]] at LL
  clear hwb
  go_loopw [34] (fun i wr => ∃ (k : Nat) (r : Nat → Value) (v : Nat → List Vt), k ≤ q ∧ i = .int .i64 k ∧ Hid (LV w wb wr w.heap.size M 0 (newP 0 2) D r v w1.heap.size M2 1 (newP 1 2) D2 r2 v2 (.slice adU q capU) us) ∧ Hid ((v s).map Vt.ct = (us.take k).map Vt.ct)) (fun i _ => q - (intOf i).toNat)
  case atStart => exact ⟨0, r, v, by omega, rfl, LL, HC⟩
  clear LL HC r v
  obtain ⟨k, r, v, hk, rfl, LL, HC⟩ := hrel
  by_cases hlt : k < q
  · have q0 : (0 : Int) ≤ (k : Int) := by omega
    have q1 : (k : Int) < (q : Int) := by omega
    obtain ⟨x, hx⟩ : ∃ x, us[k]? = some x := ⟨_, List.getElem?_eq_getElem (by rw [← HQ.out]; exact hlt)⟩
    obtain ⟨ad3, cap3, e3, hin3⟩ := LL.out.o.row.inn
    cases e3
    obtain ⟨ab, ofs, rfl, hab, hra⟩ := hin3.read (by rw [← HQ.out]; omega)
    have YR := Hi (hra k x hx)
    have XT := Hi (LL.out.o.row.ins k x hx)
    have HX := Hi hx
    clear hra hab hin3 hx
    go_wp2_with (first | ((with_reducible refine so0 ?_ ?_); (focus rfl)) | ((with_reducible refine so4 [39] ?_ ?_); (focus rfl)))
    refine at9 (by go_simp) fun K0 hK => ld_vr _ ab (ofs + k * 42) x XT.out.ok rfl rfl YR.out (hK _ _ ?_)
    clear hK
    go_wp2_with (first | ((with_reducible refine so0 ?_ ?_); (focus rfl)) | ((with_reducible refine so4 [39] ?_ ?_); (focus rfl)))
    refine at9 (by go_simp) fun K0 hK => st_v _ _ wr.heap.size x rfl rfl rfl XT.out.ok (Bk.new rfl _ _) (by rfl) (fun w4 hd ho => hK _ _ ?_)
    clear hK
    have x4 : Ex wr w4 := ho.below wr.heap.size (Nat.le_refl _) wr (Ex.alloc wr _)
    obtain ⟨g1, hg⟩ : ∃ g, g = wr.heap.size := ⟨_, rfl⟩
    rw [← hg] at hd ⊢
    have HY := Hi hd
    replace LL := Hi (LL.out.ext x4)
    replace XT := Hi (XT.out.ext x4)
    clear hd ho hg x4 YR
    go_wp2_with (first | ((with_reducible refine so0 ?_ ?_); (focus rfl)) | ((with_reducible refine so4 [39] ?_ ?_); (focus rfl)))
    refine at9 (by go_simp) fun K0 hK => ld_v _ g1 x rfl rfl HY.out (hK _ _ ?_)
    clear hK
    go_wp2_with (first | ((with_reducible refine so0 ?_ ?_); (focus rfl)) | ((with_reducible refine so4 [39] ?_ ?_); (focus rfl)))
    refine at9 (by go_simp) fun K0 hK => wp_build _ _ rfl _ (built_rkK x XT.out.ok) (hK _ _ ?_)
    clear hK
    go_wp2_with fail
    obtain ⟨c, b, hdet⟩ := get_det (v s) (idn x.id)
    have hrt := UO.out.ris.2.1 k x HX.out
    have hln : (v s).length = k := by have := congrArg List.length HC.out; simp only [List.length_map, List.length_take] at this; have h2 := HQ.out; omega
    have hE : ckE (newP 0 2 s) b (v s).length = 0 := by unfold ckE newP; simp only [HSE.out]; rw [hln]; simp; omega
    refine (apply_keep w.heap.size M 0 2 (newP 0 2) D r v (rkK x) rfl s (UO.out.sh x (List.mem_of_getElem? HX.out)) hs16 c b hdet w4 (rkK_in XT.out.vi) LL.out.s1).mono ?_
    rw [hE]
    clear hdet hE hln
    rintro e w6 (⟨hn, _⟩ | ⟨_, _, rfl, r9, ls, hpr, hss, htc, hli⟩)
    · exact absurd ⟨rkK_keep hrt, rfl⟩ hn
    have LL2 := Hi (LL.out.tc hs16 htc hss hli)
    have HC2 : Hid ((updF v s ls s).map Vt.ct = (us.take (k + 1)).map Vt.ct) := Hi (by rw [updF_same]; exact putrel_app UO.out HC.out HX.out hpr)
    clear hpr hss htc hli hrt LL HC HX XT HY
    go_wp2_with fail
    (first | (refine ⟨?_, ?measure⟩; (repeat apply Exists.intro); refine ⟨?rel, rfl⟩) | refine ⟨?rel, ?measure⟩)
    case rel => exact ⟨k + 1, _, _, by omega, by go_num, LL2, HC2⟩
    case measure => simp [intOf]; omega
  obtain rfl : k = q := by omega
  have q1 : ¬ (k : Int) < (k : Int) := by omega
  replace HC : Hid ((v s).map Vt.ct = us.map Vt.ct) := Hi (by rw [HC.out, HQ.out, List.take_length])
  go_wp2_with fail
  have BK : Hid (Bk (wr.alloc (.cells #[.pointer (some ⟨M, 0, none⟩), .pointer (some ⟨M2, 0, none⟩)] 42)) wr.heap.size 42 #[.pointer (some ⟨M, 0, none⟩), .pointer (some ⟨M2, 0, none⟩)]) := Hi (Bk.new rfl _ _)
  replace LL := Hi (LV.base (LL.out.ext (Ex.alloc wr (.cells #[.pointer (some ⟨M, 0, none⟩), .pointer (some ⟨M2, 0, none⟩)] 42))))
  generalize hw4 : (wr.alloc (.cells #[.pointer (some ⟨M, 0, none⟩), .pointer (some ⟨M2, 0, none⟩)] 42)) = w4 at *
  obtain ⟨g9, hg9⟩ : ∃ g, g = wr.heap.size := ⟨_, rfl⟩
  rw [← hg9] at BK ⊢
  obtain ⟨B2, hB2⟩ : ∃ b, b = w1.heap.size := ⟨_, rfl⟩
  rw [← hB2] at LL
  clear hw4 hg9 hB2
  have FF0 : Hid (FF s 1 us (newP 0 2) (newP 1 2) v) := Hi ⟨by unfold newP; rw [if_pos HSE.out], by unfold newP; rw [if_neg (by rw [HSE.out]; decide)], NL.new _ _ _, NL.new _ _ _, HC.out⟩
  clear HC
  go_loopw [48] (fun i wq => ∃ (p : Nat → Pa) (r : Nat → Value) (v : Nat → List Vt) (p2 : Nat → Pa) (r2 : Nat → Value) (v2 : Nat → List Vt), Hid (LV w w4 wq w.heap.size M 0 p D r v B2 M2 1 p2 D2 r2 v2 (.slice adU k capU) us) ∧ ((i = .int .i64 0 ∧ Hid (FF s 1 us p p2 v)) ∨ (i = .int .i64 1 ∧ Hid (FF s 2 us p2 p v2)) ∨ (i = .int .i64 2 ∧ Hid (FF s 3 us p p2 v)))) (fun i _ => 2 - (intOf i).toNat)
  case atStart => exact ⟨newP 0 2, r, v, newP 1 2, r2, v2, LL, Or.inl ⟨rfl, FF0⟩⟩
  clear LL FF0
  obtain ⟨p, r, v, p2, r2, v2, LL, hcs⟩ := hrel
  have BR := LL.out.o.kp _ _ BK.out
  have c0 : wr.cell? ⟨g9, 0, none⟩ = some (.pointer (some ⟨M, 0, none⟩)) := (BR.cell 0).trans rfl
  have c1 : wr.cell? ⟨g9, 1, none⟩ = some (.pointer (some ⟨M2, 0, none⟩)) := (BR.cell 1).trans rfl
  clear BR
  rcases hcs with ⟨rfl, HF⟩ | ⟨rfl, HF⟩ | ⟨rfl, HF⟩
  · go_upto_region 17 with fail
    replace LL := Hi (LL.out.ext (Ex.alloc wr (.cells #[.pointer (some ⟨M2, 0, none⟩), .pointer (some ⟨M, 0, none⟩)] 42)))
    generalize hw5 : (wr.alloc (.cells #[.pointer (some ⟨M2, 0, none⟩), .pointer (some ⟨M, 0, none⟩)] 42)) = w5 at *
    clear hw5 c0 c1
    go_cut [91] (fun s91 wd => s91 = .bool false ∧ Hid (LV w w4 wd w.heap.size M 0 (updF p s ⟨2, 2, 1⟩) D r v B2 M2 1 p2 D2 r2 v2 (.slice adU k capU) us))
    case first =>
      go_wp2_with (first | ((with_reducible refine so0 ?_ ?_); (focus rfl)) | ((with_reducible refine so4 [39] ?_ ?_); (focus rfl)))
      refine at9 (by go_simp) fun K0 hK => wp_build _ _ rfl _ (built_rkO (s : Int) 1 2) (hK _ _ ?_)
      clear hK
      go_wp2_with fail
      refine (apply_out w.heap.size M 0 2 p D r v (rkO (s : Int) 1 2) rfl 0 (by show (0 : Int) = outE 0 2 (p s) 1 2; rw [HF.out.a]; exact outE01) w5 (rk_in (by unfold i64; omega) (by unfold i64; omega) (by unfold i64; omega) (by omega) (none_in _ 0) (by decide) (fun i y hy => by simp at hy)) LL.out.s1).mono ?_
      rintro e w6 (⟨hn, _⟩ | ⟨_, _, rfl, hss, hmd⟩)
      · exact absurd ⟨rkO_R (by omega) (by omega) (by omega) (by omega) (by omega) (by omega), rfl⟩ hn
      replace LL := Hi (LL.out.md hmd (p' := (updF p s ⟨2, 2, 1⟩)) hss)
      clear hss hmd
      go_wp2_with fail
      refine (lent_any w.heap.size M 0 2 (updF p s ⟨2, 2, 1⟩) D r v w6 LL.out.s1).mono ?_
      rintro e w7 ⟨lv, rfl, hown, x7⟩
      rw [lent_one HF.out.na hs16 _ rfl] at hown
      obtain ⟨adL, capL, rfl, _, _, _, _⟩ := own_rd hown
      have HO := Hi hown
      replace LL := Hi (LL.out.ext x7)
      clear x7 hown
      go_wp2_with fail
      have xa : Ex w7 (w7.alloc (.cells #[.int .i64 (s : Int)] 3)) := Ex.alloc _ _
      obtain ⟨ad8, cap8, e8, _, _, _, hr8⟩ := own_rd (xa.row HO.out)
      cases e8
      obtain ⟨ad9, e9, _, hr9⟩ := Many.rd (w := (w7.alloc (.cells #[.int .i64 (s : Int)] 3))) (e := 3) (n := 1) (sz := 1) (cs := [.int .i64 (s : Int)]) ⟨w7.heap.size, rfl, Bk.new rfl _ _⟩ rfl
      cases e9
      have CS := sames_any adL (some ⟨w7.heap.size, 0, none⟩) capL 1 [s] [s] (w7.alloc (.cells #[.int .i64 (s : Int)] 3)) hr8 hr9 (by show 1 ≤ 1000; decide) (by show 1 ≤ 1000; decide)
      rw [decide_eq_true rfl] at CS
      refine CS.mono ?_
      clear CS hr8 hr9
      rintro e w8 ⟨rfl, x8⟩
      replace LL := Hi (LL.out.ext (Ex.trans xa x8))
      clear xa x8 HO
      by_cases hq0 : 0 < k
      rotate_left
      · have q1 : ¬ (0 : Int) < (k : Int) := by omega
        go_wp2_with fail
        go_meet
        case rel => exact ⟨rfl, LL⟩
      have q1 : (0 : Int) < (k : Int) := by omega
      obtain ⟨x, hx⟩ : ∃ x, us[0]? = some x := ⟨_, List.getElem?_eq_getElem (by rw [← HQ.out]; exact hq0)⟩
      obtain ⟨ad3, cap3, e3, hin3⟩ := LL.out.o.row.inn
      simp only [Value.slice.injEq] at e3
      obtain ⟨e3, e5, e4⟩ := e3
      clear e5
      subst e3 e4
      obtain ⟨ab, ofs, rfl, hab, hra⟩ := hin3.read (by rw [← HQ.out]; exact hq0)
      have YR : Hid (w8.rangeAt ab ofs x.C) := Hi (by have := hra 0 x hx; rwa [Nat.zero_mul, Nat.add_zero] at this)
      have XT := Hi (LL.out.o.row.ins 0 x hx)
      have HX := Hi hx
      clear hra hab hin3 hx
      go_wp2_with (first | ((with_reducible refine so0 ?_ ?_); (focus rfl)) | ((with_reducible refine so4 [39] ?_ ?_); (focus rfl)))
      refine at9 (by go_simp) fun K0 hK => ld_vr _ ab ofs x XT.out.ok rfl rfl YR.out (hK _ _ ?_)
      clear hK
      go_wp2_with (first | ((with_reducible refine so0 ?_ ?_); (focus rfl)) | ((with_reducible refine so4 [39] ?_ ?_); (focus rfl)))
      refine at9 (by go_simp) fun K0 hK => wp_build _ _ rfl _ (built_rkK x XT.out.ok) (hK _ _ ?_)
      clear hK
      go_wp2_with fail
      obtain ⟨c, b, hdet⟩ := get_det (v s) (idn x.id)
      have hrt := UO.out.ris.2.1 0 x HX.out
      have hE : ckE ((updF p s ⟨2, 2, 1⟩) s) b (v s).length = 27 := by rw [updF_same]; unfold ckE; simp
      refine (apply_keep w.heap.size M 0 2 (updF p s ⟨2, 2, 1⟩) D r v (rkK x) rfl s (UO.out.sh x (List.mem_of_getElem? HX.out)) hs16 c b hdet w8 (rkK_in XT.out.vi) LL.out.s1).mono ?_
      rw [hE]
      clear hdet hE
      rintro e w9 (⟨_, ⟨E, rfl, _, hE1, _⟩, x9⟩ | ⟨_, h27, _⟩)
      · obtain rfl := hE1 (rkK_keep hrt)
        replace LL := Hi (LL.out.ext x9)
        clear x9 hE1 hrt XT YR HX
        go_wp2_with fail
        go_meet
        case rel => exact ⟨rfl, LL⟩
      cases h27
    clear LL
    obtain ⟨rfl, LL⟩ := hcut
    go_wp2_with fail
    refine (svaults_any w.heap.size M 0 2 (updF p s ⟨2, 2, 1⟩) D r v s hs16 wc LL.out.s1).mono ?_
    rintro e w10 ⟨x10, ys, rfl, hrow, hct, x10b⟩
    obtain ⟨adV, capV, rfl, _, hcV⟩ := hrow.inn3
    have HR := Hi hrow
    have HCT := Hi (hct.trans HF.out.c)
    replace LL := Hi (LL.out.ext x10b)
    clear hrow hct x10b
    go_wp2_with (first | ((with_reducible refine so0 ?_ ?_); (focus rfl)) | ((with_reducible refine so4 [39] ?_ ?_); (focus rfl)))
    refine at9 (by go_simp) fun K0 hK => wp_build _ _ rfl _ (built_rkI (s : Int) 2 adV capV ys) (hK _ _ ?_)
    clear hK
    go_wp2_with fail
    have UY := UsOK.of HCT.out UO.out
    obtain ⟨ad6, cap6, e6, hin6⟩ := HR.out.inn
    cases e6
    have hmd : ∀ wa wb, Ex w10 wa → Md M2 wa wb → Vp.In adV capV ys wb ∧ ∀ (i : Nat) (y : Vt), ys[i]? = some y → VI wb y := fun wa wb xa ka => by
      have kt : Kt [115] 0 wa wb := Kt.md ka (Nat.zero_le _) (LL.out.o.s2.blk.ext xa) (List.mem_singleton.2 rfl)
      have h0 := (HR.out.less (Nat.zero_le _)).ext xa
      have h2 : VRow wb 0 (.slice adV ys.length capV) ys := ⟨kt.row h0.row (by decide), fun i y hy => (h0.ins i y hy).kt kt (by decide)⟩
      obtain ⟨ad7, cap7, e7, hin7⟩ := h2.inn
      cases e7
      exact ⟨hin7, fun i y hy => (h2.ins i y hy).vi⟩
    refine (apply_in B2 M2 1 2 p2 D2 r2 v2 (rkI (s : Int) 2 adV capV ys) rfl 0 (fun _ => by show (0 : Int) = inE (p2 s) 2; rw [HF.out.b]; exact inE2) (fun h => absurd UY.sh h) w10 (rk_in (by unfold i64; omega) (by unfold i64; omega) (by unfold i64; omega) (by omega) hin6 hcV (fun i y hy => (HR.out.ins i y hy).vi)) hmd LL.out.o.s2).mono ?_
    rintro e w11 (⟨hn, _⟩ | ⟨_, _, rfl, hF⟩)
    · exact absurd ⟨rkI_R (by omega) (by omega) (by omega) (by omega) UY.ris, rfl⟩ hn
    obtain ⟨r9, zs, hz, hl⟩ := LL.out.swap.inf (s := s) (q := ⟨1, 2, 0⟩) hs16 hF
    have HZ : Hid (zs.map Vt.ct = us.map Vt.ct) := Hi (hz.trans HCT.out)
    replace LL := Hi hl.swap
    clear hz hl hF hmd hin6 UY HR HCT
    go_wp2_with (first | ((with_reducible refine so0 ?_ ?_); (focus rfl)) | ((with_reducible refine so4 [39] ?_ ?_); (focus rfl)))
    refine at9 (by go_simp) fun K0 hK => wp_build _ _ rfl _ (built_rkD (s : Int) 2) (hK _ _ ?_)
    clear hK
    go_wp2_with fail
    refine (apply_done w.heap.size M 0 2 (updF p s ⟨2, 2, 1⟩) D r v (rkD (s : Int) 2) rfl 0 (by show (0 : Int) = if ((updF p s ⟨2, 2, 1⟩) s).role = 2 ∧ ((updF p s ⟨2, 2, 1⟩) s).ep = 2 then 0 else 26; rw [updF_same]; rfl) w11 (rk_in (by unfold i64; omega) (by unfold i64; omega) (by unfold i64; omega) (by omega) (none_in _ 0) (by decide) (fun i y hy => by simp at hy)) LL.out.s1).mono ?_
    rintro e w12 (⟨hn, _⟩ | ⟨_, _, rfl, hF⟩)
    · exact absurd ⟨rkD_R (by omega) (by omega) (by omega) (by omega), rfl⟩ hn
    obtain ⟨r8, ts, ht0, hl⟩ := LL.out.inf (s := s) (q := ⟨0, ((updF p s ⟨2, 2, 1⟩) s).ep, 0⟩) hs16 hF
    obtain rfl : ts = [] := List.map_eq_nil_iff.1 ht0
    replace LL := Hi hl
    clear ht0 hl hF
    go_wp2_with fail
    refine (svaults_any w.heap.size M 0 2 (updF (updF p s ⟨2, 2, 1⟩) s ⟨0, ((updF p s ⟨2, 2, 1⟩) s).ep, 0⟩) D (updF r s r8) (updF v s []) s hs16 w12 LL.out.s1).mono ?_
    rintro e w13 ⟨x13, ys, rfl, hrow, hct, x13b⟩
    rw [updF_same] at hct
    obtain rfl : ys = [] := List.map_eq_nil_iff.1 hct
    obtain ⟨adE, capE, rfl, _⟩ := hrow.inn
    rw [List.length_nil]
    replace LL := Hi (LL.out.ext x13b)
    clear hrow hct x13b
    go_wp2_with fail
    refine (svaults_any B2 M2 1 2 (updF p2 s ⟨1, 2, 0⟩) D2 (updF r2 s r9) (updF v2 s zs) s hs16 w13 LL.out.o.s2).mono ?_
    rintro e w14 ⟨x14, ys, rfl, hrow, hct, x14b⟩
    rw [updF_same] at hct
    obtain ⟨adW, capW, rfl, hiW, hcW⟩ := hrow.inn3
    replace LL := Hi (LL.out.ext x14b)
    have HR := Hi hrow
    have HIW := Hi hiW
    have HCT := Hi (hct.trans HZ.out)
    clear hrow hct x14b hiW
    go_wp2_with fail
    obtain ⟨ad3, cap3, e3, hin3, hc3⟩ := LL.out.o.row.inn3
    simp only [Value.slice.injEq] at e3
    obtain ⟨e3, e5, e4⟩ := e3
    clear e5
    subst e3 e4
    have CS := rvs_any adW adU capW capU ys us hcW hc3 w14 HIW.out hin3 (fun i y hy => (HR.out.ins i y hy).vi) (fun i y hy => (LL.out.o.row.ins i y hy).vi)
    rw [← HQ.out, decide_eq_true HCT.out] at CS
    refine CS.mono ?_
    clear CS hin3 HIW HR
    rintro e w15 ⟨rfl, x15⟩
    replace LL := Hi (LL.out.ext x15)
    clear x15
    have FN : Hid (FF s 2 us (updF p2 s ⟨1, 2, 0⟩) (updF (updF p s ⟨2, 2, 1⟩) s ⟨0, ((updF p s ⟨2, 2, 1⟩) s).ep, 0⟩) (updF v2 s zs)) := Hi ⟨updF_same _ _ _, by rw [updF_same, updF_same], HF.out.nb.upd _, (HF.out.na.upd _).upd _, by rw [updF_same]; exact HZ.out⟩
    clear HF HZ HCT
    go_wp2_with fail
    (first | (refine ⟨?_, ?measure⟩; (repeat apply Exists.intro); refine ⟨?rel, rfl⟩) | refine ⟨?rel, ?measure⟩)
    case rel => exact ⟨_, _, _, _, _, _, LL, Or.inr (Or.inl ⟨rfl, FN⟩)⟩
    case measure => simp [intOf]
  · replace LL := Hi (LL.out.swap)
    go_upto_region 17 with fail
    replace LL := Hi (LL.out.ext (Ex.alloc wr (.cells #[.pointer (some ⟨M2, 0, none⟩), .pointer (some ⟨M, 0, none⟩)] 42)))
    generalize hw5 : (wr.alloc (.cells #[.pointer (some ⟨M2, 0, none⟩), .pointer (some ⟨M, 0, none⟩)] 42)) = w5 at *
    clear hw5 c0 c1
    go_cut [91] (fun s91 wd => s91 = .bool false ∧ Hid (LV w w4 wd B2 M2 1 (updF p2 s ⟨2, 3, 0⟩) D2 r2 v2 w.heap.size M 0 p D r v (.slice adU k capU) us))
    case first =>
      go_wp2_with (first | ((with_reducible refine so0 ?_ ?_); (focus rfl)) | ((with_reducible refine so4 [39] ?_ ?_); (focus rfl)))
      refine at9 (by go_simp) fun K0 hK => wp_build _ _ rfl _ (built_rkO (s : Int) 0 3) (hK _ _ ?_)
      clear hK
      go_wp2_with fail
      refine (apply_out B2 M2 1 2 p2 D2 r2 v2 (rkO (s : Int) 0 3) rfl 0 (by show (0 : Int) = outE 1 2 (p2 s) 0 3; rw [HF.out.a]; exact outE12) w5 (rk_in (by unfold i64; omega) (by unfold i64; omega) (by unfold i64; omega) (by omega) (none_in _ 0) (by decide) (fun i y hy => by simp at hy)) LL.out.s1).mono ?_
      rintro e w6 (⟨hn, _⟩ | ⟨_, _, rfl, hss, hmd⟩)
      · exact absurd ⟨rkO_R (by omega) (by omega) (by omega) (by omega) (by omega) (by omega), rfl⟩ hn
      replace LL := Hi (LL.out.md hmd (p' := (updF p2 s ⟨2, 3, 0⟩)) hss)
      clear hss hmd
      go_wp2_with fail
      refine (lent_any B2 M2 1 2 (updF p2 s ⟨2, 3, 0⟩) D2 r2 v2 w6 LL.out.s1).mono ?_
      rintro e w7 ⟨lv, rfl, hown, x7⟩
      rw [lent_one HF.out.na hs16 _ rfl] at hown
      obtain ⟨adL, capL, rfl, _, _, _, _⟩ := own_rd hown
      have HO := Hi hown
      replace LL := Hi (LL.out.ext x7)
      clear x7 hown
      go_wp2_with fail
      have xa : Ex w7 (w7.alloc (.cells #[.int .i64 (s : Int)] 3)) := Ex.alloc _ _
      obtain ⟨ad8, cap8, e8, _, _, _, hr8⟩ := own_rd (xa.row HO.out)
      cases e8
      obtain ⟨ad9, e9, _, hr9⟩ := Many.rd (w := (w7.alloc (.cells #[.int .i64 (s : Int)] 3))) (e := 3) (n := 1) (sz := 1) (cs := [.int .i64 (s : Int)]) ⟨w7.heap.size, rfl, Bk.new rfl _ _⟩ rfl
      cases e9
      have CS := sames_any adL (some ⟨w7.heap.size, 0, none⟩) capL 1 [s] [s] (w7.alloc (.cells #[.int .i64 (s : Int)] 3)) hr8 hr9 (by show 1 ≤ 1000; decide) (by show 1 ≤ 1000; decide)
      rw [decide_eq_true rfl] at CS
      refine CS.mono ?_
      clear CS hr8 hr9
      rintro e w8 ⟨rfl, x8⟩
      replace LL := Hi (LL.out.ext (Ex.trans xa x8))
      clear xa x8 HO
      by_cases hq0 : 0 < k
      rotate_left
      · have q1 : ¬ (0 : Int) < (k : Int) := by omega
        go_wp2_with fail
        go_meet
        case rel => exact ⟨rfl, LL⟩
      have q1 : (0 : Int) < (k : Int) := by omega
      obtain ⟨x, hx⟩ : ∃ x, us[0]? = some x := ⟨_, List.getElem?_eq_getElem (by rw [← HQ.out]; exact hq0)⟩
      obtain ⟨ad3, cap3, e3, hin3⟩ := LL.out.o.row.inn
      simp only [Value.slice.injEq] at e3
      obtain ⟨e3, e5, e4⟩ := e3
      clear e5
      subst e3 e4
      obtain ⟨ab, ofs, rfl, hab, hra⟩ := hin3.read (by rw [← HQ.out]; exact hq0)
      have YR : Hid (w8.rangeAt ab ofs x.C) := Hi (by have := hra 0 x hx; rwa [Nat.zero_mul, Nat.add_zero] at this)
      have XT := Hi (LL.out.o.row.ins 0 x hx)
      have HX := Hi hx
      clear hra hab hin3 hx
      go_wp2_with (first | ((with_reducible refine so0 ?_ ?_); (focus rfl)) | ((with_reducible refine so4 [39] ?_ ?_); (focus rfl)))
      refine at9 (by go_simp) fun K0 hK => ld_vr _ ab ofs x XT.out.ok rfl rfl YR.out (hK _ _ ?_)
      clear hK
      go_wp2_with (first | ((with_reducible refine so0 ?_ ?_); (focus rfl)) | ((with_reducible refine so4 [39] ?_ ?_); (focus rfl)))
      refine at9 (by go_simp) fun K0 hK => wp_build _ _ rfl _ (built_rkK x XT.out.ok) (hK _ _ ?_)
      clear hK
      go_wp2_with fail
      obtain ⟨c, b, hdet⟩ := get_det (v2 s) (idn x.id)
      have hrt := UO.out.ris.2.1 0 x HX.out
      have hE : ckE ((updF p2 s ⟨2, 3, 0⟩) s) b (v2 s).length = 27 := by rw [updF_same]; unfold ckE; simp
      refine (apply_keep B2 M2 1 2 (updF p2 s ⟨2, 3, 0⟩) D2 r2 v2 (rkK x) rfl s (UO.out.sh x (List.mem_of_getElem? HX.out)) hs16 c b hdet w8 (rkK_in XT.out.vi) LL.out.s1).mono ?_
      rw [hE]
      clear hdet hE
      rintro e w9 (⟨_, ⟨E, rfl, _, hE1, _⟩, x9⟩ | ⟨_, h27, _⟩)
      · obtain rfl := hE1 (rkK_keep hrt)
        replace LL := Hi (LL.out.ext x9)
        clear x9 hE1 hrt XT YR HX
        go_wp2_with fail
        go_meet
        case rel => exact ⟨rfl, LL⟩
      cases h27
    clear LL
    obtain ⟨rfl, LL⟩ := hcut
    go_wp2_with fail
    refine (svaults_any B2 M2 1 2 (updF p2 s ⟨2, 3, 0⟩) D2 r2 v2 s hs16 wc LL.out.s1).mono ?_
    rintro e w10 ⟨x10, ys, rfl, hrow, hct, x10b⟩
    obtain ⟨adV, capV, rfl, _, hcV⟩ := hrow.inn3
    have HR := Hi hrow
    have HCT := Hi (hct.trans HF.out.c)
    replace LL := Hi (LL.out.ext x10b)
    clear hrow hct x10b
    go_wp2_with (first | ((with_reducible refine so0 ?_ ?_); (focus rfl)) | ((with_reducible refine so4 [39] ?_ ?_); (focus rfl)))
    refine at9 (by go_simp) fun K0 hK => wp_build _ _ rfl _ (built_rkI (s : Int) 3 adV capV ys) (hK _ _ ?_)
    clear hK
    go_wp2_with fail
    have UY := UsOK.of HCT.out UO.out
    obtain ⟨ad6, cap6, e6, hin6⟩ := HR.out.inn
    cases e6
    have hmd : ∀ wa wb, Ex w10 wa → Md M wa wb → Vp.In adV capV ys wb ∧ ∀ (i : Nat) (y : Vt), ys[i]? = some y → VI wb y := fun wa wb xa ka => by
      have kt : Kt [115] 0 wa wb := Kt.md ka (Nat.zero_le _) (LL.out.o.s2.blk.ext xa) (List.mem_singleton.2 rfl)
      have h0 := (HR.out.less (Nat.zero_le _)).ext xa
      have h2 : VRow wb 0 (.slice adV ys.length capV) ys := ⟨kt.row h0.row (by decide), fun i y hy => (h0.ins i y hy).kt kt (by decide)⟩
      obtain ⟨ad7, cap7, e7, hin7⟩ := h2.inn
      cases e7
      exact ⟨hin7, fun i y hy => (h2.ins i y hy).vi⟩
    refine (apply_in w.heap.size M 0 2 p D r v (rkI (s : Int) 3 adV capV ys) rfl 0 (fun _ => by show (0 : Int) = inE (p s) 3; rw [HF.out.b]; exact inE3) (fun h => absurd UY.sh h) w10 (rk_in (by unfold i64; omega) (by unfold i64; omega) (by unfold i64; omega) (by omega) hin6 hcV (fun i y hy => (HR.out.ins i y hy).vi)) hmd LL.out.o.s2).mono ?_
    rintro e w11 (⟨hn, _⟩ | ⟨_, _, rfl, hF⟩)
    · exact absurd ⟨rkI_R (by omega) (by omega) (by omega) (by omega) UY.ris, rfl⟩ hn
    obtain ⟨r9, zs, hz, hl⟩ := LL.out.swap.inf (s := s) (q := ⟨1, 3, 0⟩) hs16 hF
    have HZ : Hid (zs.map Vt.ct = us.map Vt.ct) := Hi (hz.trans HCT.out)
    replace LL := Hi hl.swap
    clear hz hl hF hmd hin6 UY HR HCT
    go_wp2_with (first | ((with_reducible refine so0 ?_ ?_); (focus rfl)) | ((with_reducible refine so4 [39] ?_ ?_); (focus rfl)))
    refine at9 (by go_simp) fun K0 hK => wp_build _ _ rfl _ (built_rkD (s : Int) 3) (hK _ _ ?_)
    clear hK
    go_wp2_with fail
    refine (apply_done B2 M2 1 2 (updF p2 s ⟨2, 3, 0⟩) D2 r2 v2 (rkD (s : Int) 3) rfl 0 (by show (0 : Int) = if ((updF p2 s ⟨2, 3, 0⟩) s).role = 2 ∧ ((updF p2 s ⟨2, 3, 0⟩) s).ep = 3 then 0 else 26; rw [updF_same]; rfl) w11 (rk_in (by unfold i64; omega) (by unfold i64; omega) (by unfold i64; omega) (by omega) (none_in _ 0) (by decide) (fun i y hy => by simp at hy)) LL.out.s1).mono ?_
    rintro e w12 (⟨hn, _⟩ | ⟨_, _, rfl, hF⟩)
    · exact absurd ⟨rkD_R (by omega) (by omega) (by omega) (by omega), rfl⟩ hn
    obtain ⟨r8, ts, ht0, hl⟩ := LL.out.inf (s := s) (q := ⟨0, ((updF p2 s ⟨2, 3, 0⟩) s).ep, 0⟩) hs16 hF
    obtain rfl : ts = [] := List.map_eq_nil_iff.1 ht0
    replace LL := Hi hl
    clear ht0 hl hF
    go_wp2_with fail
    refine (svaults_any B2 M2 1 2 (updF (updF p2 s ⟨2, 3, 0⟩) s ⟨0, ((updF p2 s ⟨2, 3, 0⟩) s).ep, 0⟩) D2 (updF r2 s r8) (updF v2 s []) s hs16 w12 LL.out.s1).mono ?_
    rintro e w13 ⟨x13, ys, rfl, hrow, hct, x13b⟩
    rw [updF_same] at hct
    obtain rfl : ys = [] := List.map_eq_nil_iff.1 hct
    obtain ⟨adE, capE, rfl, _⟩ := hrow.inn
    rw [List.length_nil]
    replace LL := Hi (LL.out.ext x13b)
    clear hrow hct x13b
    go_wp2_with fail
    refine (svaults_any w.heap.size M 0 2 (updF p s ⟨1, 3, 0⟩) D (updF r s r9) (updF v s zs) s hs16 w13 LL.out.o.s2).mono ?_
    rintro e w14 ⟨x14, ys, rfl, hrow, hct, x14b⟩
    rw [updF_same] at hct
    obtain ⟨adW, capW, rfl, hiW, hcW⟩ := hrow.inn3
    replace LL := Hi (LL.out.ext x14b)
    have HR := Hi hrow
    have HIW := Hi hiW
    have HCT := Hi (hct.trans HZ.out)
    clear hrow hct x14b hiW
    go_wp2_with fail
    obtain ⟨ad3, cap3, e3, hin3, hc3⟩ := LL.out.o.row.inn3
    simp only [Value.slice.injEq] at e3
    obtain ⟨e3, e5, e4⟩ := e3
    clear e5
    subst e3 e4
    have CS := rvs_any adW adU capW capU ys us hcW hc3 w14 HIW.out hin3 (fun i y hy => (HR.out.ins i y hy).vi) (fun i y hy => (LL.out.o.row.ins i y hy).vi)
    rw [← HQ.out, decide_eq_true HCT.out] at CS
    refine CS.mono ?_
    clear CS hin3 HIW HR
    rintro e w15 ⟨rfl, x15⟩
    replace LL := Hi (LL.out.ext x15)
    clear x15
    have FN : Hid (FF s 3 us (updF p s ⟨1, 3, 0⟩) (updF (updF p2 s ⟨2, 3, 0⟩) s ⟨0, ((updF p2 s ⟨2, 3, 0⟩) s).ep, 0⟩) (updF v s zs)) := Hi ⟨updF_same _ _ _, by rw [updF_same, updF_same], HF.out.nb.upd _, (HF.out.na.upd _).upd _, by rw [updF_same]; exact HZ.out⟩
    clear HF HZ HCT
    go_wp2_with fail
    replace LL := Hi (LL.out.swap)
    (first | (refine ⟨?_, ?measure⟩; (repeat apply Exists.intro); refine ⟨?rel, rfl⟩) | refine ⟨?rel, ?measure⟩)
    case rel => exact ⟨_, _, _, _, _, _, LL, Or.inr (Or.inr ⟨rfl, FN⟩)⟩
    case measure => simp [intOf]
  clear c0 c1
  go_wp2_with fail
  refine (role_any w.heap.size M 0 2 p D r v s hs16 wr LL.out.s1).mono ?_
  rintro e w5 ⟨rfl, x5⟩
  rw [HF.out.a]
  replace LL := Hi (LL.out.ext x5)
  clear x5
  go_wp2_with fail
  refine (lent_any w.heap.size M 0 2 p D r v w5 LL.out.s1).mono ?_
  rintro e w6 ⟨lv, rfl, hown, x6⟩
  rw [lent_none HF.out.na (by rw [HF.out.a]; decide)] at hown
  obtain ⟨adL, capL, rfl, _, _, _, _⟩ := own_rd hown
  rw [List.length_nil]
  replace LL := Hi (LL.out.ext x6)
  clear x6 hown
  go_wp2_with fail
  refine (known16 w6).mono ?_
  rintro e w7 ⟨rfl, x7⟩
  have Z := Hi (Ex.trans LL.out.o.ex x7)
  clear x7
  go_wp2_with fail
  go_ret
  exact ⟨rfl, Z.out⟩
end Go.Proofs.Ytmjfnpmnhehnkaa
namespace Go.Proofs.Ytmjfnpmnhehnkaa
open Go.ChangeShapes Go.WideShapes Go.ChangeAt Go.RowKit Go.Deep
set_option maxRecDepth 100000 in
theorem open_bytes {H : Type} {enc : TypeId × Value → H} {W : World} {n : Nat} {cs : List Value} {x : DataW H × List MemPlace} (h : DataW.trod enc Try.prog W 0 (fun _ => true) true n 25 cs = some x) :
    ∃ p : Pt, cs = [p.V] ∧ p.In W W.heap.size ∧ p.l.length ≤ 9223372036854775807 := by
  rcases open_ints Try.underlying25 Try.underlying5 Try.cells5 h with ⟨hcs, hx⟩ | ⟨a, len, cap, zs, hcs, _, hl, hm, hz, hx, hcell, hwz⟩
  · exact ⟨⟨none, 0, []⟩, hcs, ⟨Nat.le_refl _, fun _ => rfl, fun h => absurd h (Nat.lt_irrefl 0)⟩, Nat.zero_le _⟩
  simp only [if_true] at hz
  have hlen : ((zs.take len).map fun n => UInt8.ofNat n.toNat).length = len := by simp; omega
  refine ⟨⟨some a, cap, (zs.take len).map fun n => UInt8.ofNat n.toNat⟩, by rw [hcs]; unfold Pt.V; simp only [hlen], ⟨by simp only [hlen]; exact hl, (fun h => by cases h), fun h0 => ?_⟩, by simp only [hlen]; unfold maxLen at hm; omega⟩
  simp only [hlen] at h0 ⊢
  obtain ⟨ab, ao, spot⟩ := a
  have hspot : spot = none := by simpa [Addr.add] using World.cell?_spot (hcell 0 (by omega))
  subst hspot
  refine ⟨ab, ao, rfl, by have := World.block_lt_of_cell? W _ (hcell 0 (by omega)); simpa [Addr.add] using this, fun i hi => ?_⟩
  have hcj := hcell i (by omega)
  rw [Addr.add_lit] at hcj
  rw [hcj]
  have hb := range_u8 hwz i
  have e : zs[i]? = some (zs[i]'(by omega)) := List.getElem?_eq_getElem (by omega)
  have e2 : (List.map (fun n => UInt8.ofNat n.toNat) (zs.take len)).getD i 0 = UInt8.ofNat (zs[i]'(by omega)).toNat := by
    simp [List.getD, hi, e]
  rw [e2, List.getD_eq_getElem?_getD, e]
  rw [e] at hb
  simp only [Option.getD_some] at hb ⊢
  congr 2
  simp only [UInt8.toNat_ofNat']
  omega
theorem Try.cells3 : Try.prog.cellsOf 3 = 1 := by kernel_rfl
theorem Try.cells24 : Try.prog.cellsOf 24 = 1 := by kernel_rfl
theorem Try.cells25 : Try.prog.cellsOf 25 = 1 := by kernel_rfl
theorem wf_i64 {n : Int} (h : (Lit.int .i64 n).wf = true) : -9223372036854775808 ≤ n ∧ n ≤ 9223372036854775807 := by
  simp [Lit.wf, IntKind.min, IntKind.max, IntKind.signed, IntKind.bits] at h; omega
theorem wf_u64 {n : Int} (h : (Lit.int .u64 n).wf = true) : 0 ≤ n ∧ n < 18446744073709551616 := by
  simp [Lit.wf, IntKind.min, IntKind.max, IntKind.signed, IntKind.bits] at h; omega
theorem Try.cells27 : Try.prog.cellsOf 27 = 8 := by kernel_rfl
def fields27 : List Field := [⟨ "ID", 3, 0, false, "", "", 0⟩, ⟨ "Pin", 3, 1, false, "", "", 8⟩, ⟨ "Owner", 3, 2, false, "", "", 16⟩, ⟨ "Limit", 3, 3, false, "", "", 24⟩, ⟨ "Used", 3, 4, false, "", "", 32⟩, ⟨ "How", 3, 5, false, "", "", 40⟩, ⟨ "Gen", 24, 6, false, "", "", 48⟩, ⟨ "Secret", 25, 7, false, "", "", 56⟩]
theorem fields27_is : (Try.prog.fieldsOf 27).toList = fields27 := by
  unfold Program.fieldsOf
  rw [Try.underlying27]
  rfl
theorem under27 : Try.prog.underlying 27 = some (.struct (Try.prog.fieldsOf 27)) := by
  unfold Program.fieldsOf; rw [Try.underlying27]
set_option maxRecDepth 100000 in
theorem kv_cells {H : Type} {enc : TypeId × Value → H} {W : World} {n : Nat} {cs : List Value} {x : DataW H × List MemPlace} (hl : cs.length = 8) (h : DataW.trod enc Try.prog W 0 (fun _ => true) true n 27 cs = some x) :
    ∃ z : Kv, cs = z.C ∧ z.In W := by
  obtain ⟨xs, k, _, _, _, hlen, hf⟩ := DataW.trod_struct under27 h
  have hfs : (Try.prog.fieldsOf 27).toList = fields27 := fields27_is
  have g0 : (Try.prog.fieldsOf 27)[0]? = some ⟨ "ID", 3, 0, false, "", "", 0⟩ := by rw [← Array.getElem?_toList, hfs]; rfl
  have g1 : (Try.prog.fieldsOf 27)[1]? = some ⟨ "Pin", 3, 1, false, "", "", 8⟩ := by rw [← Array.getElem?_toList, hfs]; rfl
  have g2 : (Try.prog.fieldsOf 27)[2]? = some ⟨ "Owner", 3, 2, false, "", "", 16⟩ := by rw [← Array.getElem?_toList, hfs]; rfl
  have g3 : (Try.prog.fieldsOf 27)[3]? = some ⟨ "Limit", 3, 3, false, "", "", 24⟩ := by rw [← Array.getElem?_toList, hfs]; rfl
  have g4 : (Try.prog.fieldsOf 27)[4]? = some ⟨ "Used", 3, 4, false, "", "", 32⟩ := by rw [← Array.getElem?_toList, hfs]; rfl
  have g5 : (Try.prog.fieldsOf 27)[5]? = some ⟨ "How", 3, 5, false, "", "", 40⟩ := by rw [← Array.getElem?_toList, hfs]; rfl
  have g6 : (Try.prog.fieldsOf 27)[6]? = some ⟨ "Gen", 24, 6, false, "", "", 48⟩ := by rw [← Array.getElem?_toList, hfs]; rfl
  have g7 : (Try.prog.fieldsOf 27)[7]? = some ⟨ "Secret", 25, 7, false, "", "", 56⟩ := by rw [← Array.getElem?_toList, hfs]; rfl
  have hn : xs.length = 8 := by rw [hlen, ← Array.length_toList, hfs]; rfl
  match xs, hn, cs, hl with
  | [y0, y1, y2, y3, y4, y5, y6, y7], _, [c0, c1, c2, c3, c4, c5, c6, c7], _ =>
    have f0 : DataW.trod enc Try.prog W 0 (fun _ => true) true k 3 (([c0, c1, c2, c3, c4, c5, c6, c7].drop 0).take (Try.prog.cellsOf 3)) = some y0 := hf 0 _ g0
    rw [Try.cells3] at f0
    obtain ⟨m0, e0, _, w0⟩ := DataW.trod_int Try.underlying3 f0
    have e0 : c0 = .int .i64 m0 := by simpa using e0
    have f1 : DataW.trod enc Try.prog W 0 (fun _ => true) true k 3 (([c0, c1, c2, c3, c4, c5, c6, c7].drop 1).take (Try.prog.cellsOf 3)) = some y1 := hf 1 _ g1
    rw [Try.cells3] at f1
    obtain ⟨m1, e1, _, w1⟩ := DataW.trod_int Try.underlying3 f1
    have e1 : c1 = .int .i64 m1 := by simpa using e1
    have f2 : DataW.trod enc Try.prog W 0 (fun _ => true) true k 3 (([c0, c1, c2, c3, c4, c5, c6, c7].drop 2).take (Try.prog.cellsOf 3)) = some y2 := hf 2 _ g2
    rw [Try.cells3] at f2
    obtain ⟨m2, e2, _, w2⟩ := DataW.trod_int Try.underlying3 f2
    have e2 : c2 = .int .i64 m2 := by simpa using e2
    have f3 : DataW.trod enc Try.prog W 0 (fun _ => true) true k 3 (([c0, c1, c2, c3, c4, c5, c6, c7].drop 3).take (Try.prog.cellsOf 3)) = some y3 := hf 3 _ g3
    rw [Try.cells3] at f3
    obtain ⟨m3, e3, _, w3⟩ := DataW.trod_int Try.underlying3 f3
    have e3 : c3 = .int .i64 m3 := by simpa using e3
    have f4 : DataW.trod enc Try.prog W 0 (fun _ => true) true k 3 (([c0, c1, c2, c3, c4, c5, c6, c7].drop 4).take (Try.prog.cellsOf 3)) = some y4 := hf 4 _ g4
    rw [Try.cells3] at f4
    obtain ⟨m4, e4, _, w4⟩ := DataW.trod_int Try.underlying3 f4
    have e4 : c4 = .int .i64 m4 := by simpa using e4
    have f5 : DataW.trod enc Try.prog W 0 (fun _ => true) true k 3 (([c0, c1, c2, c3, c4, c5, c6, c7].drop 5).take (Try.prog.cellsOf 3)) = some y5 := hf 5 _ g5
    rw [Try.cells3] at f5
    obtain ⟨m5, e5, _, w5⟩ := DataW.trod_int Try.underlying3 f5
    have e5 : c5 = .int .i64 m5 := by simpa using e5
    have f6 : DataW.trod enc Try.prog W 0 (fun _ => true) true k 24 (([c0, c1, c2, c3, c4, c5, c6, c7].drop 6).take (Try.prog.cellsOf 24)) = some y6 := hf 6 _ g6
    rw [Try.cells24] at f6
    obtain ⟨m6, e6, _, w6⟩ := DataW.trod_int Try.underlying24 f6
    have e6 : c6 = .int .u64 m6 := by simpa using e6
    have f7 : DataW.trod enc Try.prog W 0 (fun _ => true) true k 25 (([c0, c1, c2, c3, c4, c5, c6, c7].drop 7).take (Try.prog.cellsOf 25)) = some y7 := hf 7 _ g7
    rw [Try.cells25] at f7
    obtain ⟨p7, e7, in7, ln7⟩ := open_bytes f7
    have e7 : c7 = p7.V := by simpa using e7
    exact ⟨⟨m0, m1, m2, m3, m4, m5, m6, p7⟩, by rw [e0, e1, e2, e3, e4, e5, e6, e7]; rfl, ⟨wf_i64 w0, wf_i64 w1, wf_i64 w2, wf_i64 w3, wf_i64 w4, wf_i64 w5, (wf_u64 w6).1, (wf_u64 w6).2, in7, ln7⟩⟩
def KvpRow (W : World) (v : Value) : Prop := ∃ (ad : Option Addr) (cap : Nat) (l : List Kv), v = .slice ad l.length cap ∧ Kvp.In ad cap l W ∧ l.length ≤ 9223372036854775807
set_option maxRecDepth 100000 in
theorem open_kvs {H : Type} (enc : TypeId × Value → H) (W : World) (v : Value) {d : DataW H} {ps : List MemPlace} (base : Nat) (hval : Value.okWide Try.prog W .any base 28 v) (h : DataW.Trod enc Try.prog W 0 (fun _ => true) true 28 v d ps) : KvpRow W v := by
  obtain ⟨a1, len1, cap1, rfl⟩ := okWide_slice Try.underlying28 hval
  obtain ⟨fuel, hf⟩ := h
  rcases open_slice Try.underlying28 hf with ⟨hcs, hx⟩ | ⟨a, len, cap, m, n, D, Pl, hcs, hb, hl, hm, hmm, hx, hi⟩
  · simp [Value.cells] at hcs
    obtain ⟨rfl, rfl, rfl⟩ := hcs
    exact ⟨none, 0, [], rfl, ⟨Nat.le_refl _, fun _ => rfl, fun i x hx => by simp at hx, fun h => absurd h (Nat.lt_irrefl 0)⟩, Nat.zero_le _⟩
  simp [Value.cells] at hcs
  obtain ⟨rfl, rfl, rfl⟩ := hcs
  simp only [if_true] at hmm
  have key : ∀ i : Fin len1, ∃ z : Kv, z.In W ∧ ∀ (j : Nat) (u : Value), z.C[j]? = some u → W.cell? ((a.add (i.1 * 8)).add j) = some u := fun i => by
    obtain ⟨cs', hc, ht'⟩ := hi i.1 (by have := i.2; omega)
    rw [Try.cells27] at hc
    obtain ⟨_, hcl, hat⟩ := World.cells?_some hc
    obtain ⟨z, z1, z3⟩ := kv_cells hcl ht'
    refine ⟨z, z3, fun j u hu => ?_⟩
    have hj : j < 8 := by rw [← z1] at hu; have := (List.getElem?_eq_some_iff.1 hu).1; omega
    rw [hat j hj, z1]; exact hu
  obtain ⟨f, hff⟩ := Classical.axiomOfChoice key
  have hget : ∀ (i : Nat) (x : Kv), (List.ofFn f)[i]? = some x → ∃ hi : i < len1, x = f ⟨i, hi⟩ := fun i x hx => by
    have hlt : i < len1 := by have := (List.getElem?_eq_some_iff.1 hx).1; simpa using this
    refine ⟨hlt, ?_⟩
    rw [List.getElem?_ofFn, dif_pos hlt] at hx
    exact (Option.some.inj hx).symm
  refine ⟨some a, cap1, List.ofFn f, by simp, ⟨by simpa using hl, (fun h => by cases h), fun i x hx => ?_, fun h0 => ?_⟩, by have := Nat.le_trans hl hm; unfold maxLen at this; simpa using this⟩
  · obtain ⟨h1, rfl⟩ := hget i x hx
    exact (hff ⟨i, h1⟩).1
  have hpos : 0 < len1 := by rwa [List.length_ofFn] at h0
  obtain ⟨ab, ao, spot⟩ := a
  have hc0 := (hff ⟨0, hpos⟩).2 0 _ rfl
  have hspot : spot = none := by simpa [Addr.add] using World.cell?_spot hc0
  subst hspot
  refine ⟨ab, ao, rfl, by have := World.block_lt_of_cell? W _ hc0; simpa [Addr.add] using this, fun i x hx => ?_⟩
  obtain ⟨h1, rfl⟩ := hget i x hx
  intro j u hu
  have z1 := (hff ⟨i, h1⟩).2 j u hu
  rw [Addr.add_lit, Addr.add_lit] at z1
  exact z1
end Go.Proofs.Ytmjfnpmnhehnkaa
namespace Go.Proofs.Ytmjfnpmnhehnkaa
open Go.RowKit
theorem lends_law (v : Value) (a : Int) (w : World) (h : KvpRow w v) (ha : -9223372036854775808 ≤ a ∧ a ≤ 9223372036854775807) : Calls Try.prog 6 #[v, .int .i64 a] w fun e w' => e = .returned (.bool true) ∧ Below w.heap.size w w' := by
  obtain ⟨ad, cap, l, rfl, hin, hl⟩ := h
  exact lends_any ad cap l a ha w hl hin
end Go.Proofs.Ytmjfnpmnhehnkaa
