/- Wo -/
import Derived.Test.YtmjfnpmnhehnkaaQbk
import Derived.Deep.DeepCutAuto
namespace Go.Proofs.Ytmjfnpmnhehnkaa
open Go.RowKit
set_option maxHeartbeats 8000000 in
set_option maxRecDepth 100000 in
theorem play_any (ad : Option Addr) (cap : Nat) (l : List Kq) (hL : l.length ≤ 9223372036854775807) (ad2 : Option Addr) (cap2 : Nat) (o : List Qt) (hL2 : o.length ≤ 9223372036854775807) (most : Nat) (hmost : most ≤ 1000) (w : World) (hin : Kp.In ad cap l w) (hin2 : Qp.In ad2 cap2 o w) : Calls Try.prog 36 #[.slice ad l.length cap, .slice ad2 o.length cap2, .int .i64 most] w fun e w' => e = .returned (.bool true) ∧ Ex w w' := by
 have HIN := Lib.hid hin
 have HIN2 := Lib.hid hin2
 obtain ⟨n, hn⟩ : ∃ n, n = l.length := ⟨_, rfl⟩
 rw [← hn] at hL ⊢
 have HN := Lib.hid hn
 obtain ⟨n2, hn2⟩ : ∃ n, n = o.length := ⟨_, rfl⟩
 rw [← hn2] at hL2 ⊢
 have HN2 := Lib.hid hn2
 clear hn hin hn2 hin2
 go_enter Try.func36, Try.ntmps36
 go_wp2_with ((with_reducible refine so2 [76] ?_ ?_); (focus rfl))
 refine (inew_any w).mono ?_
 rintro e w1 ⟨M, D, r, v, rfl, h1, h2, h3, h4⟩
 have HIM := Lib.hid h1
 have HM := Lib.hid h2
 have HV := Lib.hid h3
 have BW := Lib.hid h4
 clear h1 h2 h3 h4
 go_wp2_with fail
 have HPI := Lib.hid (PM.start (HIM.out.ext (Ex.alloc w1 (.cells #[.slice none 0 0] 134))) (Ex.trans BW.out (Ex.alloc w1 _)) (Below.size BW.out) (Bk.new rfl _ _) HV.out)
 clear HIM HV BW
 obtain ⟨P, hP⟩ : ∃ P, P = w1.heap.size := ⟨_, rfl⟩
 rw [← hP] at HPI ⊢
 clear hP
 go_loopw [9] (fun i wr => ∃ (k : Nat) (r : Nat → Value) (v : Nat → List Vt) (rv : Value) (xs : List Vt), k ≤ n ∧ k ≤ most ∧ xs.length ≤ k ∧ i = .int .i64 k ∧ Hid (PI w wr M D P r v rv xs)) (fun i _ => n - (intOf i).toNat)
 case atStart => exact ⟨0, r, v, _, [], by omega, by omega, Nat.le_refl _, rfl, HPI⟩
 case round =>
  clear HPI
  obtain ⟨k, r, v, rv, xs, hk, hkm, hxl, rfl, HPI⟩ := hrel
  have HXL := Lib.hid hxl
  clear hxl
  by_cases hlt2 : k < n ∧ k < most
  ·obtain ⟨h1, h2⟩ := hlt2
   have BW := Lib.hid HPI.out.pm.ex
   obtain ⟨ab, ofs, rfl, ha, hc⟩ := HIN.out.read (by rw [← HN.out]; omega)
   obtain ⟨x, hx⟩ : ∃ x, l[k]? = some x := ⟨_, List.getElem?_eq_getElem (by rw [← HN.out]; exact h1)⟩
   have XI := Lib.hid ((HIN.out.ins k x hx).ext BW.out)
   have XR : Hid (wr.rangeAt ab (ofs + k * 8) x.C) := Lib.hid (fun j u hu => (Below.cell (p := ⟨ab, ofs + k * 8 + j, none⟩) BW.out ha).trans (hc k x hx j u hu))
   clear hc hx ha
   have q0 : (0 : Int) ≤ (k : Int) := by omega
   have q1 : (k : Int) < (n : Int) := by omega
   have q2 : (k : Int) < (most : Int) := by omega
   go_wp2_with ((with_reducible refine so2 [76] ?_ ?_); (focus rfl))
   (with_reducible refine at9 ?_ ?_); (focus go_simp); refine fun K0 hK => ld_k _ ab (ofs + k * 8) x rfl rfl XR.out (hK _ _ ?_)
   clear hK
   go_wp2_with ((with_reducible refine so2 [76] ?_ ?_); (focus rfl))
   refine (req2_any x wr XI.out).mono ?_
   rintro e w4 ⟨q, rfl, hqi, _, xx, hqs⟩
   replace HPI := Lib.hid (HPI.out.ext xx)
   have QOK := Lib.hid hqi.ok
   have QS := Lib.hid hqs
   clear XI XR BW hqi hqs xx
   go_wp2_with ((with_reducible refine so2 [76] ?_ ?_); (focus rfl))
   (with_reducible refine at9 ?_ ?_); (focus go_simp); refine fun K0 hK => st_q _ _ w4.heap.size q rfl rfl rfl QOK.out (Bk.new rfl _ _) (by rfl) (fun w5 hd ho => hK _ _ ?_)
   clear hK
   have x5 : Ex w4 w5 := ho.below w4.heap.size (Nat.le_refl _) w4 (Ex.alloc w4 _)
   have HQ5 := Lib.hid hd
   have HS5 : Hid (SK w w5 q.sec) := Lib.hid (Or.inr (QS.out.ext x5))
   have X5 := Lib.hid x5
   obtain ⟨g, hg⟩ : ∃ g, g = w4.heap.size := ⟨_, rfl⟩
   rw [← hg] at HQ5 ⊢
   have HG := Lib.hid hg
   clear hd ho x5 hg QS QOK
   go_upto_region 8 with ((with_reducible refine so2 [76] ?_ ?_); (focus rfl))
   simp only [Act.put]
   go_cut [49] (fun s49 wc => ∃ b : Bool, s49 = .bool b ∧ (b = true → (k : Int) / 7 < (n2 : Int)) ∧ Hid (QB wc g q) ∧ Hid (SK w wc q.sec) ∧ Hid (Ex w4 wc))
   case first =>
    go_wp2_with fail
    ·go_meet
     case rel => exact ⟨_, rfl, fun h => of_decide_eq_true h, HQ5, HS5, X5⟩
    go_meet
    case rel => exact ⟨false, rfl, fun h => (nomatch h), HQ5, HS5, X5⟩
   case rest =>
    clear HQ5 HS5 X5
    obtain ⟨b, rfl, hb, HQ5, HS5, X5⟩ := hcut
    go_upto_if 49 with ((with_reducible refine so2 [76] ?_ ?_); (focus rfl))
    go_cut [] (fun wc => ∃ q : Qt, Hid (QB wc g q) ∧ Hid (SK w wc q.sec) ∧ Hid (Ex w4 wc))
    case first =>
     cases b
     case false =>
      go_wp2_with fail
      go_meet
      case rel => exact ⟨q, HQ5, HS5, X5⟩
     case true =>
      have q4 : (k : Int) / 7 < (n2 : Int) := hb rfl
      have q3 : (0 : Int) ≤ (k : Int) / 7 := by omega
      obtain ⟨j, hj⟩ : ∃ j, j = ((k : Int) / 7).toNat := ⟨_, rfl⟩
      have hj2 : j < n2 := by omega
      obtain ⟨ab2, ofs2, rfl, ha, hc⟩ := HIN2.out.read (by rw [← HN2.out]; omega)
      obtain ⟨y, hy⟩ : ∃ y, o[j]? = some y := ⟨_, List.getElem?_eq_getElem (by rw [← HN2.out]; exact hj2)⟩
      have BX := Lib.hid (Ex.trans HPI.out.pm.ex X5.out)
      have YI := Lib.hid (HIN2.out.ins j y hy)
      have YR : Hid (wc.rangeAt ab2 (ofs2 + ((k : Int) / 7).toNat * 57) y.C) := Lib.hid (by rw [← hj]; exact fun i u hu => (Below.cell (p := ⟨ab2, ofs2 + j * 57 + i, none⟩) BX.out ha).trans (hc j y hy i u hu))
      clear hc hy ha hj hj2 hb
      go_wp2_with ((with_reducible refine so2 [76] ?_ ?_); (focus rfl))
      (with_reducible refine at9 ?_ ?_); (focus go_simp); refine fun K0 hK => ld_qr _ ab2 (ofs2 + ((k : Int) / 7).toNat * 57) y YI.out.ok rfl rfl YR.out (hK _ _ ?_)
      clear hK
      go_wp2_with ((with_reducible refine so2 [76] ?_ ?_); (focus rfl))
      (with_reducible refine at9 ?_ ?_); (focus go_simp); refine fun K0 hK => st_q _ _ g y rfl rfl rfl YI.out.ok HQ5.out.2 (by rw [List.size_toArray, Qt.len HQ5.out.1]) (fun w6 hd ho => hK _ _ ?_)
      clear hK
      have hgg : Ex w4 w6 := ho.below w4.heap.size (by rw [HG.out]; exact Nat.le_refl _) w4 X5.out
      have HQ6 := Lib.hid hd
      have HS6 : Hid (SK w w6 y.sec) := Lib.hid (Or.inl (YI.out.sec.keep (Below.trans HPI.out.pm.ex (hgg.mono (Below.size HPI.out.pm.ex)))))
      have X6 := Lib.hid hgg
      clear hd ho hgg
      go_wp2_with fail
      go_meet
      case rel => exact ⟨y, HQ6, HS6, X6⟩
    case rest =>
     clear HQ5 HS5 X5 hb
     obtain ⟨q, HQ, HS, X5⟩ := hcut
     replace HPI := Lib.hid (HPI.out.ext X5.out)
     have HW := Lib.hid (Below.size HPI.out.pm.ex)
     have QI5 : Hid (QI wc q) := Lib.hid ⟨HQ.out.1, HS.out.inn HW.out⟩
     clear X5 HG
     go_wp2_with ((with_reducible refine so2 [76] ?_ ?_); (focus rfl))
     refine (icopy_any w.heap.size M D r v (HPI.out.pm.im.rising HPI.out.rel.rightV) wc HPI.out.pm.im).mono ?_
     rintro e w7 ⟨M2, D2, r2, v2, rfl, h1, h2, h3, h4⟩
     have HAP := Lib.hid (HPI.out.pm.im.apart h1 (Nat.le_refl _))
     have HVC := Lib.hid (allV_ct h3 16 (Nat.le_refl _))
     have HCP := Lib.hid h1
     replace HPI := Lib.hid (HPI.out.ext h4)
     replace HQ := Lib.hid (HQ.out.ext h4)
     replace HS := Lib.hid (HS.out.ext HW.out h4)
     clear h1 h2 h3 h4 QI5 HW
     go_wp2_with ((with_reducible refine so2 [76] ?_ ?_); (focus rfl))
     obtain ⟨s, hs, hs16⟩ := shv_range q.id
     go_upto_region 11 with ((with_reducible refine so2 [76] ?_ ?_); (focus rfl))
     have hS0 : ∀ (listed : Array Bool) (f : Nat → Value), (∀ i, listed.getD i false = false) → Q11 w M D P r v rv xs s g q wc.heap.size M2 D2 r2 v2 listed f w7.drew := fun listed f h0 => by
      have xd : Ex w7 w7.drew := (Below.refl w7.heap.size w7).drew
      exact ⟨⟨Ex.trans HPI.out.pm.ex xd, HQ.out.ext xd, HS.out.ext (Below.size HPI.out.pm.ex) xd, HCP.out.ext xd⟩, fun _ => HPI.out.pm.ext xd, (fun e => by rw [h0 2] at e; cases e), (fun e => by rw [h0 5] at e; cases e), (fun e => by rw [h0 6] at e; cases e), (fun e => by rw [h0 7] at e; cases e), fun e => by rw [h0 6] at e; cases e⟩
     obtain ⟨T, hT⟩ : ∃ T : List (Value → Prop), T = [(fun zz => zz = .pointer (some ⟨M, 0, none⟩)), (fun zz => zz = q.V), (fun _ => True), (fun zz => zz = .pointer (some ⟨P, 0, none⟩)), (fun zz => zz = q.V), (fun _ => True), (fun _ => True), (fun _ => True), (fun _ => True), (fun _ => True)] := ⟨_, rfl⟩
     refine wp_region_gen (JS T ([(5, 2), (8, 5), (8, 2), (9, 5), (8, 6), (9, 7)] : List (Nat × Nat)) (Q11 w M D P r v rv xs s g q wc.heap.size M2 D2 r2 v2)) (by kernel_rfl) (by kernel_rfl) (by kernel_rfl) (fitB_spec (by kernel_rfl)) (fun listed f h => JS.start listed f h (hS0 listed f h)) ?_ ?_
     ·intro i o ho
      have hi : i < 10 := (Array.getElem?_eq_some_iff.1 ho).1
      have hi' : i = 0 ∨ i = 1 ∨ i = 2 ∨ i = 3 ∨ i = 4 ∨ i = 5 ∨ i = 6 ∨ i = 7 ∨ i = 8 ∨ i = 9 := by omega
      clear hi
      rcases hi' with rfl | rfl | rfl | rfl | rfl | rfl | rfl | rfl | rfl | rfl
      all_goals (simp only [List.getElem?_toArray, List.getElem?_cons_zero, List.getElem?_cons_succ, Option.some.injEq] at ho; subst ho; intro listed f a wz hJ hsz hls hun hdep hout hlat; first | (rw [if_pos (by rfl)]; intro K hK) | skip)
      ·have q7 := hout 7 (outB_spec (by kernel_rfl))
       refine wp_mv _ rfl (hK _ _ ?_)
       rw [show a.eval (.tmp 7) = .pointer (some ⟨M, 0, none⟩) from q7]
       exact hJ.next (by rw [hls]; decide) (by rw [hT]; rfl) (Q11.plain hJ.st 0 (by decide)) (no_head (by decide))
      ·have q10 := hout 10 (outB_spec (by kernel_rfl))
       exact ld_q _ g q rfl q10 hJ.st.c.qb (hK _ _ (hJ.next (by rw [hls]; decide) (by rw [hT]; rfl) (Q11.plain hJ.st 1 (by decide)) (no_head (by decide))))
      ·have q57 := hJ.iq hT (hdep ⟨0, .data⟩ (by simp) rfl) rfl _ rfl _ rfl
       have q58 := hJ.iq hT (hdep ⟨1, .data⟩ (by simp) rfl) rfl _ rfl _ rfl
       have h5 : listed.getD 5 false = false := by
        cases hc : listed.getD 5 false with
        | false => rfl
        | true => exact absurd (hJ.ord (5, 2) (by simp) hc) (by rw [hun]; decide)
       have h8 : listed.getD 8 false = false := by
        cases hc : listed.getD 8 false with
        | false => rfl
        | true => exact absurd (hJ.ord (8, 2) (by simp) hc) (by rw [hun]; decide)
       clear hsz hdep hout hlat
       go_simp
       refine (ido2_any w.heap.size M D r v q s hs hs16 wz (hJ.st.st0 hun).im HM.out ⟨hJ.st.c.qb.1, hJ.st.c.sk.inn (Below.size hJ.st.c.ex)⟩).mono ?_
       rintro e wq ⟨z, r1, v1, rfl, hz, hzp, him, hst, htc, hli⟩
       exact hK _ _ (hJ.next (by rw [hls]; decide) (by rw [hT]; trivial) (Q11.do1 hJ.st (by rw [hls]; decide) hun h5 h8 hs16 HAP.out hz (hzp.less (Nat.zero_le _)) him hst htc hli) (no_head (by decide)))
      ·have q8 := hout 8 (outB_spec (by kernel_rfl))
       refine wp_mv _ rfl (hK _ _ ?_)
       rw [show a.eval (.tmp 8) = .pointer (some ⟨P, 0, none⟩) from q8]
       exact hJ.next (by rw [hls]; decide) (by rw [hT]; rfl) (Q11.plain hJ.st 3 (by decide)) (no_head (by decide))
      ·have q10 := hout 10 (outB_spec (by kernel_rfl))
       exact ld_q _ g q rfl q10 hJ.st.c.qb (hK _ _ (hJ.next (by rw [hls]; decide) (by rw [hT]; rfl) (Q11.plain hJ.st 4 (by decide)) (no_head (by decide))))
      ·have q60 := hJ.iq hT (hdep ⟨3, .data⟩ (by simp) rfl) rfl _ rfl _ rfl
       have q61 := hJ.iq hT (hdep ⟨4, .data⟩ (by simp) rfl) rfl _ rfl _ rfl
       have hl2 := (hdep ⟨2, .chain⟩ (by simp) rfl).1
       have hord : ∀ x ∈ ([(5, 2), (8, 5), (8, 2), (9, 5), (8, 6), (9, 7)] : List (Nat × Nat)), x.1 = 5 → listed.getD x.2 false = true := (by intro x hx he; simp only [List.mem_cons, List.not_mem_nil, or_false] at hx; rcases hx with rfl | rfl | rfl | rfl | rfl | rfl; all_goals first | (exact absurd he (by decide)) | assumption)
       have h9 : listed.getD 9 false = false := by
        cases hc : listed.getD 9 false with
        | false => rfl
        | true => exact absurd (hJ.ord (9, 5) (by simp) hc) (by rw [hun]; decide)
       have hl2 := (hdep ⟨2, .chain⟩ (by simp) rfl).1
       obtain ⟨z1, r1, v1, hR, hm, hst1⟩ := hJ.st.st1 hl2 hun
       clear hsz hdep hout hlat
       go_simp
       refine (pdo_any w P rv xs q wz hm.pb HPI.out.rel.right (by have := HXL.out; omega) ⟨hJ.st.c.qb.1, hJ.st.c.sk.inn (Below.size hJ.st.c.ex)⟩ hJ.st.c.sk).mono ?_
       rintro e wq ⟨z, rv1, xs1, rfl, hz, hzp, hpb, hps, hmd, hli⟩
       exact hK _ _ (hJ.next (by rw [hls]; decide) (by rw [hT]; trivial) (Q11.do2 hJ.st (by rw [hls]; decide) hl2 h9 hR hm hst1 hz (hzp.less (Nat.zero_le _)) hpb hps hmd hli) hord)
      ·have h8 : listed.getD 8 false = false := by
        cases hc : listed.getD 8 false with
        | false => rfl
        | true => exact absurd (hJ.ord (8, 6) (by simp) hc) (by rw [hun]; decide)
       clear hsz hdep hout hlat
       go_simp
       exact hK _ _ (hJ.next (by rw [hls]; decide) (by rw [hT]; trivial) (Q11.n6 hJ.st h8) (no_head (by decide)))
      ·have h9 : listed.getD 9 false = false := by
        cases hc : listed.getD 9 false with
        | false => rfl
        | true => exact absurd (hJ.ord (9, 7) (by simp) hc) (by rw [hun]; decide)
       clear hsz hdep hout hlat
       go_simp
       exact hK _ _ (hJ.next (by rw [hls]; decide) (by rw [hT]; trivial) (Q11.n7 hJ.st h9) (no_head (by decide)))
      ·have dd12 := hdep ⟨6, .data⟩ (by simp) rfl
       have q12 := dd12.2 _ rfl _ rfl
       have dd59 := hdep ⟨2, .data⟩ (by simp) rfl
       have q59 := dd59.2 _ rfl _ rfl
       have hl5 := (hdep ⟨5, .chain⟩ (by simp) rfl).1
       have hl2 := (hdep ⟨2, .data⟩ (by simp) rfl).1
       have hl6 := (hdep ⟨6, .data⟩ (by simp) rfl).1
       have hord : ∀ x ∈ ([(5, 2), (8, 5), (8, 2), (9, 5), (8, 6), (9, 7)] : List (Nat × Nat)), x.1 = 8 → listed.getD x.2 false = true := (by intro x hx he; simp only [List.mem_cons, List.not_mem_nil, or_false] at hx; rcases hx with rfl | rfl | rfl | rfl | rfl | rfl; all_goals first | (exact absurd he (by decide)) | assumption)
       have hk2 := (hdep ⟨2, .data⟩ (by simp) rfl).1
       have hk5 := (hdep ⟨5, .chain⟩ (by simp) rfl).1
       have hk6 := (hdep ⟨6, .data⟩ (by simp) rfl).1
       obtain ⟨a6, cs6, e6, lo6, hb6, hz6, _⟩ := hJ.st.a6 hk6
       obtain ⟨z1, z2, r1, v1, rv1, xs1, hR1, _⟩ := hJ.st.st2 hk5
       rw [e6] at q12
       rw [hR1.1] at q59
       exact st_r _ _ a6 z1 rfl q12 q59 hR1.2.1 hb6 hz6 (fun wst hd ho => hK _ _ (hJ.next (by rw [hls]; decide) (by rw [hT]; trivial) (Q11.s8 hJ.st (by rw [hls]; decide) hk2 hk5 hk6 e6 lo6 hb6 ho hR1.1 hd) hord))
      have dd13 := hdep ⟨7, .data⟩ (by simp) rfl
      have q13 := dd13.2 _ rfl _ rfl
      have dd62 := hdep ⟨5, .data⟩ (by simp) rfl
      have q62 := dd62.2 _ rfl _ rfl
      have hl5 := (hdep ⟨5, .data⟩ (by simp) rfl).1
      have hl7 := (hdep ⟨7, .data⟩ (by simp) rfl).1
      have hord : ∀ x ∈ ([(5, 2), (8, 5), (8, 2), (9, 5), (8, 6), (9, 7)] : List (Nat × Nat)), x.1 = 9 → listed.getD x.2 false = true := (by intro x hx he; simp only [List.mem_cons, List.not_mem_nil, or_false] at hx; rcases hx with rfl | rfl | rfl | rfl | rfl | rfl; all_goals first | (exact absurd he (by decide)) | assumption)
      have hk2 := (hdep ⟨2, .phase⟩ (by simp) rfl).1
      have hk5 := (hdep ⟨5, .data⟩ (by simp) rfl).1
      have hk7 := (hdep ⟨7, .data⟩ (by simp) rfl).1
      obtain ⟨a7, cs7, e7, lo7, hb7, hz7, _⟩ := hJ.st.a7 hk7
      obtain ⟨z1, z2, r1, v1, rv1, xs1, _, hR2, _⟩ := hJ.st.st2 hk5
      rw [e7] at q13
      rw [hR2.1] at q62
      exact st_r _ _ a7 z2 rfl q13 q62 hR2.2.1 hb7 hz7 (fun wst hd ho => hK _ _ (hJ.next (by rw [hls]; decide) (by rw [hT]; trivial) (Q11.s9 hJ.st (by rw [hls]; decide) hk2 hk5 hk7 e7 lo7 hb7 ho hR2.1 hd) hord))
     intro listed f wz hall hJ
     have hst := hJ.st
     simp only [putAll, Act.put, List.setIfInBounds_toArray, List.set_cons_zero, List.set_cons_succ, Nat.zero_add, Nat.reduceAdd]
     obtain ⟨z1, z2, r1, v1, rv1, xs1, hR1, hR2, hpm, hist, hpst⟩ := hst.st2 (hall 5 (by simp))
     obtain ⟨a6, cs6, e6, lo6, hb6, hz6, hv6⟩ := hst.a6 (hall 6 (by simp))
     obtain ⟨a7, cs7, e7, lo7, hb7, hz7, hv7⟩ := hst.a7 (hall 7 (by simp))
     have ec6 : cs6 = z1.C.toArray := Value.agg.inj ((hv6 (hall 8 (by simp))).symm.trans hR1.1)
     have ec7 : cs7 = z2.C.toArray := Value.agg.inj ((hv7 (hall 9 (by simp))).symm.trans hR2.1)
     rw [ec6] at hb6
     rw [ec7] at hb7
     have RB6 := Lib.hid (show RB wz a6 z1 from ⟨hR1.2.1, hb6⟩)
     have RB7 := Lib.hid (show RB wz a7 z2 from ⟨hR2.2.1, hb7⟩)
     have RI1 := Lib.hid (show RI wz z1 from ⟨hR1.2.1, hR1.2.2.1⟩)
     have RI2 := Lib.hid (show RI wz z2 from ⟨hR2.2.1, hR2.2.2.1⟩)
     obtain ⟨hy12, hpi⟩ := PI.step (q := q.ct) HPI.out.pm.im HPI.out.rel hs16 HQ.out.1.idN hs hist hpst hpm
     have HPN := Lib.hid hpi
     have HY12 := Lib.hid hy12
     have HTOT := Lib.hid (HPI.out.rel.total (fun i hi => HPI.out.pm.im.tidy HPI.out.rel.rightV hi))
     replace HCP := Lib.hid hst.c.cp
     replace HQ := Lib.hid hst.c.qb
     have hle := (PStep.len hpst).1
     have HXL1 : Hid (xs1.length ≤ k + 1) := Lib.hid (by have := HXL.out; have := (PStep.len hpst).2; omega)
     rw [e6, e7]
     clear hst hR1 hR2 hpm hist hpst e6 e7 lo6 lo7 hb6 hb7 hz6 hz7 hv6 hv7 ec6 ec7 hy12 hpi HPI HS HAP HXL hS0
     clear hJ hall hT
     go_wp2_with ((with_reducible refine so2 [76] ?_ ?_); (focus rfl))
     (with_reducible refine at9 ?_ ?_); (focus go_simp); refine fun K0 hK => ld_qid _ _ q rfl rfl HQ.out (hK _ _ ?_)
     clear hK
     go_wp2_with ((with_reducible refine so2 [76] ?_ ?_); (focus rfl))
     obtain ⟨c, b, hdet⟩ := get_det (v1 s) (idn q.id)
     have HDET := Lib.hid hdet
     refine (iget_any w.heap.size M D r1 v1 q.id HQ.out.1.idN s hs hs16 c b hdet wz HPN.out.pm.im).mono ?_
     rintro e w8 ⟨x1, rfl, hxc, htv, x8⟩
     have HXC := Lib.hid hxc
     have TX := Lib.hid htv.vi
     clear hdet hxc htv
     replace RB6 := Lib.hid (RB6.out.ext x8)
     replace RB7 := Lib.hid (RB7.out.ext x8)
     replace RI1 := Lib.hid (RI1.out.ext x8)
     replace RI2 := Lib.hid (RI2.out.ext x8)
     replace HPN := Lib.hid (HPN.out.ext x8)
     replace HCP := Lib.hid (HCP.out.ext x8)
     replace HQ := Lib.hid (HQ.out.ext x8)
     clear x8
     go_wp2_with ((with_reducible refine so2 [76] ?_ ?_); (focus rfl))
     (with_reducible refine at9 ?_ ?_); (focus go_simp); refine fun K0 hK => st_v _ _ w8.heap.size x1 rfl rfl rfl TX.out.ok (Bk.new rfl _ _) (by rfl) (fun w9 hd ho => hK _ _ ?_)
     clear hK
     have x9 : Ex w8 w9 := ho.below w8.heap.size (Nat.le_refl _) w8 (Ex.alloc w8 _)
     obtain ⟨g1, hg1⟩ : ∃ g, g = w8.heap.size := ⟨_, rfl⟩
     rw [← hg1] at hd ⊢
     have VX := Lib.hid hd
     clear hd ho hg1
     replace RB6 := Lib.hid (RB6.out.ext x9)
     replace RB7 := Lib.hid (RB7.out.ext x9)
     replace RI1 := Lib.hid (RI1.out.ext x9)
     replace RI2 := Lib.hid (RI2.out.ext x9)
     replace HPN := Lib.hid (HPN.out.ext x9)
     replace HCP := Lib.hid (HCP.out.ext x9)
     replace HQ := Lib.hid (HQ.out.ext x9)
     replace TX := Lib.hid (TX.out.ext x9)
     clear x9
     go_wp2_with ((with_reducible refine so2 [76] ?_ ?_); (focus rfl))
     (with_reducible refine at9 ?_ ?_); (focus go_simp); refine fun K0 hK => ld_qid _ _ q rfl rfl HQ.out (hK _ _ ?_)
     clear hK
     go_wp2_with ((with_reducible refine so2 [76] ?_ ?_); (focus rfl))
     refine (pget_any w P rv1 xs1 q.id HQ.out.1.idN w9 HPN.out.pm.pb).mono ?_
     rintro e w10 ⟨x2, kk, rfl, hgp, x10⟩
     obtain ⟨hxe, hkb⟩ := HPN.out.get hs16 HQ.out.1.idN hs HDET.out hgp
     have HXE := Lib.hid (HXC.out.trans hxe.symm)
     have HKB := Lib.hid hkb
     have TX2 := Lib.hid ((getp_px HPN.out.pm.pb hgp).vi (Below.size HPN.out.pm.ex))
     clear hgp hxe hkb
     replace RB6 := Lib.hid (RB6.out.ext x10)
     replace RB7 := Lib.hid (RB7.out.ext x10)
     replace RI1 := Lib.hid (RI1.out.ext x10)
     replace RI2 := Lib.hid (RI2.out.ext x10)
     replace HPN := Lib.hid (HPN.out.ext x10)
     replace HCP := Lib.hid (HCP.out.ext x10)
     replace HQ := Lib.hid (HQ.out.ext x10)
     replace TX := Lib.hid (TX.out.ext x10)
     replace TX2 := Lib.hid (TX2.out.ext x10)
     replace VX := Lib.hid (VX.out.ext x10)
     clear x10
     go_wp2_with ((with_reducible refine so2 [76] ?_ ?_); (focus rfl))
     (with_reducible refine at9 ?_ ?_); (focus go_simp); refine fun K0 hK => st_v _ _ w10.heap.size x2 rfl rfl rfl TX2.out.ok (Bk.new rfl _ _) (by rfl) (fun w11 hd ho => hK _ _ ?_)
     clear hK
     have x11 : Ex w10 w11 := ho.below w10.heap.size (Nat.le_refl _) w10 (Ex.alloc w10 _)
     obtain ⟨g2, hg2⟩ : ∃ g, g = w10.heap.size := ⟨_, rfl⟩
     rw [← hg2] at hd ⊢
     have VX2 := Lib.hid hd
     clear hd ho hg2
     replace RB6 := Lib.hid (RB6.out.ext x11)
     replace RB7 := Lib.hid (RB7.out.ext x11)
     replace RI1 := Lib.hid (RI1.out.ext x11)
     replace RI2 := Lib.hid (RI2.out.ext x11)
     replace HPN := Lib.hid (HPN.out.ext x11)
     replace HCP := Lib.hid (HCP.out.ext x11)
     replace HQ := Lib.hid (HQ.out.ext x11)
     replace TX := Lib.hid (TX.out.ext x11)
     replace TX2 := Lib.hid (TX2.out.ext x11)
     replace VX := Lib.hid (VX.out.ext x11)
     clear x11
     go_upto_region 14 with ((with_reducible refine so2 [76] ?_ ?_); (focus rfl))
     try simp only [Act.put]
     obtain ⟨ad1, cap1, erv, _, _⟩ := HPN.out.pm.pb.inn
     have ERV := Lib.hid erv
     have hp := HPN.out.pm.pb
     have HC2 := Lib.hid (HPN.out.pm.ex)
     clear erv hp
     have hS0 : ∀ (listed : Array Bool) (f : Nat → Value), (∀ i, listed.getD i false = false) → S14 w11 ((allV v1 16).map Vt.ct) listed f w11.drew := fun listed f h0 => ⟨(Below.refl w11.heap.size w11).drew, (fun e => by rw [h0 18] at e; cases e), fun e => by rw [h0 20] at e; cases e⟩
     obtain ⟨T, hT⟩ : ∃ T : List (Value → Prop), T = [(fun zz => zz = z1.V), (fun zz => zz = z2.V), (fun zz => zz = .bool true), (fun zz => zz = .bool false), (fun zz => zz = .bool false), (fun zz => zz = x1.V), (fun zz => zz = x2.V), (fun zz => zz = .bool true), (fun zz => zz = .bool false), (fun zz => zz = .bool false), (fun zz => zz = .bool false), (fun zz => zz = .bool b), (fun zz => zz = .int .i64 kk), (fun zz => zz = .bool b), (fun zz => zz = .bool false), (fun zz => zz = .bool false), (fun zz => zz = .bool false), (fun zz => zz = .pointer (some ⟨M, 0, none⟩)), (fun _ => True), (fun zz => zz = .pointer (some ⟨P, 0, none⟩)), (fun _ => True), (fun zz => zz = .bool true), (fun zz => zz = .bool false), (fun zz => zz = .bool false), (fun zz => zz = .bool false), (fun zz => zz = .pointer (some ⟨M2, 0, none⟩)), (fun zz => zz = .bool false), (fun zz => zz = .bool false), (fun zz => zz = .bool false), (fun zz => zz = .pointer (some ⟨M2, 0, none⟩)), (fun zz => ∃ ad cap, zz = .slice ad xs.length cap), (fun zz => zz = .int .i64 (xs.length : Int)), (fun zz => zz = .pointer (some ⟨P, 0, none⟩)), (fun zz => zz = .pointer (some ⟨P, 0, none⟩)), (fun zz => zz = .pointer (some ⟨P, 0, none⟩)), (fun zz => zz = .slice ad1 xs1.length cap1), (fun zz => zz = .int .i64 (xs1.length : Int)), (fun zz => zz = .bool false), (fun zz => zz = .bool false)] := ⟨_, rfl⟩
     refine wp_region_gen (JS T ([] : List (Nat × Nat)) (S14 w11 ((allV v1 16).map Vt.ct))) (by kernel_rfl) (by kernel_rfl) (by kernel_rfl) (fitB_spec (by kernel_rfl)) (fun listed f h => JS.start listed f h (hS0 listed f h)) ?_ ?_
     ·intro i o ho
      have hi : i < 39 := (Array.getElem?_eq_some_iff.1 ho).1
      have hi' : i = 0 ∨ i = 1 ∨ i = 2 ∨ i = 3 ∨ i = 4 ∨ i = 5 ∨ i = 6 ∨ i = 7 ∨ i = 8 ∨ i = 9 ∨ i = 10 ∨ i = 11 ∨ i = 12 ∨ i = 13 ∨ i = 14 ∨ i = 15 ∨ i = 16 ∨ i = 17 ∨ i = 18 ∨ i = 19 ∨ i = 20 ∨ i = 21 ∨ i = 22 ∨ i = 23 ∨ i = 24 ∨ i = 25 ∨ i = 26 ∨ i = 27 ∨ i = 28 ∨ i = 29 ∨ i = 30 ∨ i = 31 ∨ i = 32 ∨ i = 33 ∨ i = 34 ∨ i = 35 ∨ i = 36 ∨ i = 37 ∨ i = 38 := by omega
      clear hi
      rcases hi' with rfl | rfl | rfl | rfl | rfl | rfl | rfl | rfl | rfl | rfl | rfl | rfl | rfl | rfl | rfl | rfl | rfl | rfl | rfl | rfl | rfl | rfl | rfl | rfl | rfl | rfl | rfl | rfl | rfl | rfl | rfl | rfl | rfl | rfl | rfl | rfl | rfl | rfl | rfl
      all_goals (simp only [List.getElem?_toArray, List.getElem?_cons_zero, List.getElem?_cons_succ, Option.some.injEq] at ho; subst ho; intro listed f a wy hJ hsz hls hun hdep hout hlat; first | (rw [if_pos (by rfl)]; intro K hK) | skip)
      ·have q12 := hout 12 (outB_spec (by kernel_rfl))
       exact ld_r _ a6 z1 rfl q12 (RB6.out.ext hJ.st.ex) (hK _ _ (hJ.next (by rw [hls]; decide) (by rw [hT]; rfl) (S14.next hJ.st (Ex.refl _) 0 (fun e => absurd e (by decide))) (no_head (by decide))))
      ·have q13 := hout 13 (outB_spec (by kernel_rfl))
       exact ld_r _ a7 z2 rfl q13 (RB7.out.ext hJ.st.ex) (hK _ _ (hJ.next (by rw [hls]; decide) (by rw [hT]; rfl) (S14.next hJ.st (Ex.refl _) 1 (fun e => absurd e (by decide))) (no_head (by decide))))
      ·have q78 := hJ.iq hT (hdep ⟨0, .data⟩ (by simp) rfl) rfl _ rfl _ rfl
       have q79 := hJ.iq hT (hdep ⟨1, .data⟩ (by simp) rfl) rfl _ rfl _ rfl
       clear hsz hdep hout hlat
       go_simp
       refine (rreplies_any z1 z2 wy (RI1.out.ext hJ.st.ex) (RI2.out.ext hJ.st.ex)).mono ?_
       rintro e wq ⟨rfl, xq⟩
       exact hK _ _ (hJ.next (by rw [hls]; decide) (by rw [hT]; exact congrArg Value.bool (decide_eq_true HY12.out)) (S14.next hJ.st xq 2 (fun e => absurd e (by decide))) (no_head (by decide)))
      ·have q80 := hJ.iq hT (hdep ⟨2, .data⟩ (by simp) rfl) rfl _ rfl _ rfl
       clear hsz hdep hout hlat
       go_simp
       exact hK _ _ (hJ.next (by rw [hls]; decide) (by rw [hT]; first | rfl | exact congrArg (Value.int .i64) (by omega) | exact congrArg (Value.int .i64) (by rw [IntKind.wrap_i64]; omega) | exact congrArg Value.bool (decide_eq_false (by omega)) | exact congrArg Value.bool (decide_eq_true (by omega)) | exact congrArg (Value.int .u64) (by omega)) (S14.next hJ.st (Ex.refl _) 3 (fun e => absurd e (by decide))) (no_head (by decide)))
      ·have q81 := hJ.is hT (hdep ⟨3, .data⟩ (by simp) rfl) rfl _ rfl _ rfl
       refine wp_mv _ rfl (hK _ _ ?_)
       rw [show a.eval (.tmp 81) = .bool false from q81]
       exact hJ.next (by rw [hls]; decide) (by rw [hT]; rfl) (S14.next hJ.st (Ex.refl _) 4 (fun e => absurd e (by decide))) (no_head (by decide))
      ·have ddg := hdep ⟨4, .guard⟩ (by simp) rfl
       have kg := ddg.2 _ rfl _ rfl
       have hg := hJ.vals 4 ddg.1
       rw [hT] at hg
       rw [show f 4 = .bool false from hg] at kg
       clear hg ddg
       rw [if_pos (wanted_of rfl rfl rfl kg)]
       clear kg
       intro K hK
       have q14 := hout 14 (outB_spec (by kernel_rfl))
       exact ld_v _ g1 x1 rfl q14 (VX.out.ext hJ.st.ex) (hK _ _ (hJ.next (by rw [hls]; decide) (by rw [hT]; rfl) (S14.next hJ.st (Ex.refl _) 5 (fun e => absurd e (by decide))) (no_head (by decide))))
      ·have ddg := hdep ⟨4, .guard⟩ (by simp) rfl
       have kg := ddg.2 _ rfl _ rfl
       have hg := hJ.vals 4 ddg.1
       rw [hT] at hg
       rw [show f 4 = .bool false from hg] at kg
       clear hg ddg
       rw [if_pos (wanted_of rfl rfl rfl kg)]
       clear kg
       intro K hK
       have q16 := hout 16 (outB_spec (by kernel_rfl))
       exact ld_v _ g2 x2 rfl q16 (VX2.out.ext hJ.st.ex) (hK _ _ (hJ.next (by rw [hls]; decide) (by rw [hT]; rfl) (S14.next hJ.st (Ex.refl _) 6 (fun e => absurd e (by decide))) (no_head (by decide))))
      ·have ddg := hdep ⟨4, .guard⟩ (by simp) rfl
       have kg := ddg.2 _ rfl _ rfl
       have hg := hJ.vals 4 ddg.1
       rw [hT] at hg
       rw [show f 4 = .bool false from hg] at kg
       clear hg ddg
       rw [if_pos (wanted_of rfl rfl rfl kg)]
       clear kg
       intro K hK
       have q83 := hJ.iq hT (hdep ⟨5, .data⟩ (by simp) rfl) rfl _ rfl _ rfl
       have q84 := hJ.iq hT (hdep ⟨6, .data⟩ (by simp) rfl) rfl _ rfl _ rfl
       clear hsz hdep hout hlat
       go_simp
       refine (rsame_any x1 x2 wy (TX.out.ext hJ.st.ex) (TX2.out.ext hJ.st.ex)).mono ?_
       rintro e wq ⟨rfl, xq⟩
       exact hK _ _ (hJ.next (by rw [hls]; decide) (by rw [hT]; exact congrArg Value.bool (decide_eq_true HXE.out)) (S14.next hJ.st xq 7 (fun e => absurd e (by decide))) (no_head (by decide)))
      ·have ddg := hdep ⟨4, .guard⟩ (by simp) rfl
       have kg := ddg.2 _ rfl _ rfl
       have hg := hJ.vals 4 ddg.1
       rw [hT] at hg
       rw [show f 4 = .bool false from hg] at kg
       clear hg ddg
       rw [if_pos (wanted_of rfl rfl rfl kg)]
       clear kg
       intro K hK
       have q85 := hJ.iq hT (hdep ⟨7, .data⟩ (by simp) rfl) rfl _ rfl _ rfl
       clear hsz hdep hout hlat
       go_simp
       exact hK _ _ (hJ.next (by rw [hls]; decide) (by rw [hT]; first | rfl | exact congrArg (Value.int .i64) (by omega) | exact congrArg (Value.int .i64) (by rw [IntKind.wrap_i64]; omega) | exact congrArg Value.bool (decide_eq_false (by omega)) | exact congrArg Value.bool (decide_eq_true (by omega)) | exact congrArg (Value.int .u64) (by omega)) (S14.next hJ.st (Ex.refl _) 8 (fun e => absurd e (by decide))) (no_head (by decide)))
      ·have q82 := hJ.iq hT (hdep ⟨4, .data⟩ (by simp) rfl) rfl _ rfl _ rfl
       have q86 := hJ.iq hT (hdep ⟨8, .data⟩ (by simp) rfl) rfl _ rfl _ rfl
       clear hsz hdep hout hlat
       go_simp
       exact hK _ _ (hJ.next (by rw [hls]; decide) (by rw [hT]; first | rfl | exact congrArg (Value.int .i64) (by omega) | exact congrArg (Value.int .i64) (by rw [IntKind.wrap_i64]; omega) | exact congrArg Value.bool (decide_eq_false (by omega)) | exact congrArg Value.bool (decide_eq_true (by omega)) | exact congrArg (Value.int .u64) (by omega)) (S14.next hJ.st (Ex.refl _) 9 (fun e => absurd e (by decide))) (no_head (by decide)))
      ·have q87 := hJ.is hT (hdep ⟨9, .data⟩ (by simp) rfl) rfl _ rfl _ rfl
       refine wp_mv _ rfl (hK _ _ ?_)
       rw [show a.eval (.tmp 87) = .bool false from q87]
       exact hJ.next (by rw [hls]; decide) (by rw [hT]; rfl) (S14.next hJ.st (Ex.refl _) 10 (fun e => absurd e (by decide))) (no_head (by decide))
      ·have ddg := hdep ⟨10, .guard⟩ (by simp) rfl
       have kg := ddg.2 _ rfl _ rfl
       have hg := hJ.vals 10 ddg.1
       rw [hT] at hg
       rw [show f 10 = .bool false from hg] at kg
       clear hg ddg
       rw [if_pos (wanted_of rfl rfl rfl kg)]
       clear kg
       intro K hK
       have q15 := hout 15 (outB_spec (by kernel_rfl))
       refine wp_mv _ rfl (hK _ _ ?_)
       rw [show a.eval (.tmp 15) = .bool b from q15]
       exact hJ.next (by rw [hls]; decide) (by rw [hT]; rfl) (S14.next hJ.st (Ex.refl _) 11 (fun e => absurd e (by decide))) (no_head (by decide))
      ·have ddg := hdep ⟨10, .guard⟩ (by simp) rfl
       have kg := ddg.2 _ rfl _ rfl
       have hg := hJ.vals 10 ddg.1
       rw [hT] at hg
       rw [show f 10 = .bool false from hg] at kg
       clear hg ddg
       rw [if_pos (wanted_of rfl rfl rfl kg)]
       clear kg
       intro K hK
       have q17 := hout 17 (outB_spec (by kernel_rfl))
       refine wp_mv _ rfl (hK _ _ ?_)
       rw [show a.eval (.tmp 17) = .int .i64 kk from q17]
       exact hJ.next (by rw [hls]; decide) (by rw [hT]; rfl) (S14.next hJ.st (Ex.refl _) 12 (fun e => absurd e (by decide))) (no_head (by decide))
      ·have ddg := hdep ⟨10, .guard⟩ (by simp) rfl
       have kg := ddg.2 _ rfl _ rfl
       have hg := hJ.vals 10 ddg.1
       rw [hT] at hg
       rw [show f 10 = .bool false from hg] at kg
       clear hg ddg
       rw [if_pos (wanted_of rfl rfl rfl kg)]
       clear kg
       intro K hK
       have q90 := hJ.iq hT (hdep ⟨12, .data⟩ (by simp) rfl) rfl _ rfl _ rfl
       clear hsz hdep hout hlat
       go_simp
       exact hK _ _ (hJ.next (by rw [hls]; decide) (by rw [hT]; first | exact congrArg Value.bool HKB.out | (simp [← HKB.out]; done)) (S14.next hJ.st (Ex.refl _) 13 (fun e => absurd e (by decide))) (no_head (by decide)))
      ·have ddg := hdep ⟨10, .guard⟩ (by simp) rfl
       have kg := ddg.2 _ rfl _ rfl
       have hg := hJ.vals 10 ddg.1
       rw [hT] at hg
       rw [show f 10 = .bool false from hg] at kg
       clear hg ddg
       rw [if_pos (wanted_of rfl rfl rfl kg)]
       clear kg
       intro K hK
       have q89 := hJ.iq hT (hdep ⟨11, .data⟩ (by simp) rfl) rfl _ rfl _ rfl
       have q91 := hJ.iq hT (hdep ⟨13, .data⟩ (by simp) rfl) rfl _ rfl _ rfl
       clear hsz hdep hout hlat
       go_simp
       exact hK _ _ (hJ.next (by rw [hls]; decide) (by rw [hT]; first | rfl | (simp; done) | (cases b <;> rfl)) (S14.next hJ.st (Ex.refl _) 14 (fun e => absurd e (by decide))) (no_head (by decide)))
      ·have q88 := hJ.iq hT (hdep ⟨10, .data⟩ (by simp) rfl) rfl _ rfl _ rfl
       have q92 := hJ.iq hT (hdep ⟨14, .data⟩ (by simp) rfl) rfl _ rfl _ rfl
       clear hsz hdep hout hlat
       go_simp
       exact hK _ _ (hJ.next (by rw [hls]; decide) (by rw [hT]; first | rfl | exact congrArg (Value.int .i64) (by omega) | exact congrArg (Value.int .i64) (by rw [IntKind.wrap_i64]; omega) | exact congrArg Value.bool (decide_eq_false (by omega)) | exact congrArg Value.bool (decide_eq_true (by omega)) | exact congrArg (Value.int .u64) (by omega)) (S14.next hJ.st (Ex.refl _) 15 (fun e => absurd e (by decide))) (no_head (by decide)))
      ·have q93 := hJ.is hT (hdep ⟨15, .data⟩ (by simp) rfl) rfl _ rfl _ rfl
       refine wp_mv _ rfl (hK _ _ ?_)
       rw [show a.eval (.tmp 93) = .bool false from q93]
       exact hJ.next (by rw [hls]; decide) (by rw [hT]; rfl) (S14.next hJ.st (Ex.refl _) 16 (fun e => absurd e (by decide))) (no_head (by decide))
      ·have ddg := hdep ⟨16, .guard⟩ (by simp) rfl
       have kg := ddg.2 _ rfl _ rfl
       have hg := hJ.vals 16 ddg.1
       rw [hT] at hg
       rw [show f 16 = .bool false from hg] at kg
       clear hg ddg
       rw [if_pos (wanted_of rfl rfl rfl kg)]
       clear kg
       intro K hK
       have q7 := hout 7 (outB_spec (by kernel_rfl))
       refine wp_mv _ rfl (hK _ _ ?_)
       rw [show a.eval (.tmp 7) = .pointer (some ⟨M, 0, none⟩) from q7]
       exact hJ.next (by rw [hls]; decide) (by rw [hT]; rfl) (S14.next hJ.st (Ex.refl _) 17 (fun e => absurd e (by decide))) (no_head (by decide))
      ·have ddg := hdep ⟨16, .guard⟩ (by simp) rfl
       have kg := ddg.2 _ rfl _ rfl
       have hg := hJ.vals 16 ddg.1
       rw [hT] at hg
       rw [show f 16 = .bool false from hg] at kg
       clear hg ddg
       rw [if_pos (wanted_of rfl rfl rfl kg)]
       clear kg
       intro K hK
       have q95 := hJ.iq hT (hdep ⟨17, .data⟩ (by simp) rfl) rfl _ rfl _ rfl
       clear hsz hdep hout hlat
       go_simp
       refine (iall_any w.heap.size M D r1 v1 wy (HPN.out.pm.im.ext hJ.st.ex)).mono ?_
       rintro e wq ⟨va, zs, rfl, hrw, hct, xq⟩
       exact hK _ _ (hJ.next (by rw [hls]; decide) (by rw [hT]; trivial) (S14.next hJ.st xq 18 (fun _ => RV.of hrw hct)) (no_head (by decide)))
      ·have ddg := hdep ⟨16, .guard⟩ (by simp) rfl
       have kg := ddg.2 _ rfl _ rfl
       have hg := hJ.vals 16 ddg.1
       rw [hT] at hg
       rw [show f 16 = .bool false from hg] at kg
       clear hg ddg
       rw [if_pos (wanted_of rfl rfl rfl kg)]
       clear kg
       intro K hK
       have q8 := hout 8 (outB_spec (by kernel_rfl))
       refine wp_mv _ rfl (hK _ _ ?_)
       rw [show a.eval (.tmp 8) = .pointer (some ⟨P, 0, none⟩) from q8]
       exact hJ.next (by rw [hls]; decide) (by rw [hT]; rfl) (S14.next hJ.st (Ex.refl _) 19 (fun e => absurd e (by decide))) (no_head (by decide))
      ·have ddg := hdep ⟨16, .guard⟩ (by simp) rfl
       have kg := ddg.2 _ rfl _ rfl
       have hg := hJ.vals 16 ddg.1
       rw [hT] at hg
       rw [show f 16 = .bool false from hg] at kg
       clear hg ddg
       rw [if_pos (wanted_of rfl rfl rfl kg)]
       clear kg
       intro K hK
       have q97 := hJ.iq hT (hdep ⟨19, .data⟩ (by simp) rfl) rfl _ rfl _ rfl
       clear hsz hdep hout hlat
       go_simp
       refine (pall_any w P rv1 xs1 wy (HPN.out.pm.pb.ext hJ.st.ex) HPN.out.rel.dist (by have := HXL1.out; omega)).mono ?_
       rintro e wq ⟨va, zs, rfl, hrw, hm, _, hsl, xq⟩
       exact hK _ _ (hJ.next (by rw [hls]; decide) (by rw [hT]; trivial) (S14.next hJ.st xq 20 (fun _ => RV.own hrw (HPN.out.pm.pb.ext hJ.st.ex) xq hm (HPN.out.rel.all (fun i hi => HPN.out.pm.im.tidy HPN.out.rel.rightV hi) hm hsl).symm)) (no_head (by decide)))
      ·have ddg := hdep ⟨16, .guard⟩ (by simp) rfl
       have kg := ddg.2 _ rfl _ rfl
       have hg := hJ.vals 16 ddg.1
       rw [hT] at hg
       rw [show f 16 = .bool false from hg] at kg
       clear hg ddg
       rw [if_pos (wanted_of rfl rfl rfl kg)]
       clear kg
       intro K hK
       have dd96 := hdep ⟨18, .data⟩ (by simp) rfl
       have q96 := dd96.2 _ rfl _ rfl
       have dd98 := hdep ⟨20, .data⟩ (by simp) rfl
       have q98 := dd98.2 _ rfl _ rfl
       have hk18 := (hdep ⟨18, .data⟩ (by simp) rfl).1
       have hk20 := (hdep ⟨20, .data⟩ (by simp) rfl).1
       have r18 := hJ.st.e18 hk18
       have r20 := hJ.st.e20 hk20
       rw [Array.getD_eq_getD_getElem?] at q96 q98
       clear hsz hdep hout hlat
       go_simp
       refine (rv2_any r18 r20).mono ?_
       rintro e wq ⟨rfl, xq⟩
       exact hK _ _ (hJ.next (by rw [hls]; decide) (by rw [hT]; rfl) (S14.next hJ.st xq 21 (fun e => absurd e (by decide))) (no_head (by decide)))
      ·have ddg := hdep ⟨16, .guard⟩ (by simp) rfl
       have kg := ddg.2 _ rfl _ rfl
       have hg := hJ.vals 16 ddg.1
       rw [hT] at hg
       rw [show f 16 = .bool false from hg] at kg
       clear hg ddg
       rw [if_pos (wanted_of rfl rfl rfl kg)]
       clear kg
       intro K hK
       have q99 := hJ.iq hT (hdep ⟨21, .data⟩ (by simp) rfl) rfl _ rfl _ rfl
       clear hsz hdep hout hlat
       go_simp
       exact hK _ _ (hJ.next (by rw [hls]; decide) (by rw [hT]; first | rfl | exact congrArg (Value.int .i64) (by omega) | exact congrArg (Value.int .i64) (by rw [IntKind.wrap_i64]; omega) | exact congrArg Value.bool (decide_eq_false (by omega)) | exact congrArg Value.bool (decide_eq_true (by omega)) | exact congrArg (Value.int .u64) (by omega)) (S14.next hJ.st (Ex.refl _) 22 (fun e => absurd e (by decide))) (no_head (by decide)))
      ·have q94 := hJ.iq hT (hdep ⟨16, .data⟩ (by simp) rfl) rfl _ rfl _ rfl
       have q100 := hJ.iq hT (hdep ⟨22, .data⟩ (by simp) rfl) rfl _ rfl _ rfl
       clear hsz hdep hout hlat
       go_simp
       exact hK _ _ (hJ.next (by rw [hls]; decide) (by rw [hT]; first | rfl | exact congrArg (Value.int .i64) (by omega) | exact congrArg (Value.int .i64) (by rw [IntKind.wrap_i64]; omega) | exact congrArg Value.bool (decide_eq_false (by omega)) | exact congrArg Value.bool (decide_eq_true (by omega)) | exact congrArg (Value.int .u64) (by omega)) (S14.next hJ.st (Ex.refl _) 23 (fun e => absurd e (by decide))) (no_head (by decide)))
      ·have q101 := hJ.is hT (hdep ⟨23, .data⟩ (by simp) rfl) rfl _ rfl _ rfl
       refine wp_mv _ rfl (hK _ _ ?_)
       rw [show a.eval (.tmp 101) = .bool false from q101]
       exact hJ.next (by rw [hls]; decide) (by rw [hT]; rfl) (S14.next hJ.st (Ex.refl _) 24 (fun e => absurd e (by decide))) (no_head (by decide))
      ·have ddg := hdep ⟨24, .guard⟩ (by simp) rfl
       have kg := ddg.2 _ rfl _ rfl
       have hg := hJ.vals 24 ddg.1
       rw [hT] at hg
       rw [show f 24 = .bool false from hg] at kg
       clear hg ddg
       rw [if_pos (wanted_of rfl rfl rfl kg)]
       clear kg
       intro K hK
       have q11 := hout 11 (outB_spec (by kernel_rfl))
       refine wp_mv _ rfl (hK _ _ ?_)
       rw [show a.eval (.tmp 11) = .pointer (some ⟨M2, 0, none⟩) from q11]
       exact hJ.next (by rw [hls]; decide) (by rw [hT]; rfl) (S14.next hJ.st (Ex.refl _) 25 (fun e => absurd e (by decide))) (no_head (by decide))
      ·have ddg := hdep ⟨24, .guard⟩ (by simp) rfl
       have kg := ddg.2 _ rfl _ rfl
       have hg := hJ.vals 24 ddg.1
       rw [hT] at hg
       rw [show f 24 = .bool false from hg] at kg
       clear hg ddg
       rw [if_pos (wanted_of rfl rfl rfl kg)]
       clear kg
       intro K hK
       have q103 := hJ.iq hT (hdep ⟨25, .data⟩ (by simp) rfl) rfl _ rfl _ rfl
       clear hsz hdep hout hlat
       go_simp
       exact hK _ _ (hJ.next (by rw [hls]; decide) (by rw [hT]; first | rfl | exact congrArg (Value.int .i64) (by omega) | exact congrArg (Value.int .i64) (by rw [IntKind.wrap_i64]; omega) | exact congrArg Value.bool (decide_eq_false (by omega)) | exact congrArg Value.bool (decide_eq_true (by omega)) | exact congrArg (Value.int .u64) (by omega)) (S14.next hJ.st (Ex.refl _) 26 (fun e => absurd e (by decide))) (no_head (by decide)))
      ·have q102 := hJ.iq hT (hdep ⟨24, .data⟩ (by simp) rfl) rfl _ rfl _ rfl
       have q104 := hJ.iq hT (hdep ⟨26, .data⟩ (by simp) rfl) rfl _ rfl _ rfl
       clear hsz hdep hout hlat
       go_simp
       exact hK _ _ (hJ.next (by rw [hls]; decide) (by rw [hT]; first | rfl | exact congrArg (Value.int .i64) (by omega) | exact congrArg (Value.int .i64) (by rw [IntKind.wrap_i64]; omega) | exact congrArg Value.bool (decide_eq_false (by omega)) | exact congrArg Value.bool (decide_eq_true (by omega)) | exact congrArg (Value.int .u64) (by omega)) (S14.next hJ.st (Ex.refl _) 27 (fun e => absurd e (by decide))) (no_head (by decide)))
      ·have q105 := hJ.is hT (hdep ⟨27, .data⟩ (by simp) rfl) rfl _ rfl _ rfl
       refine wp_mv _ rfl (hK _ _ ?_)
       rw [show a.eval (.tmp 105) = .bool false from q105]
       exact hJ.next (by rw [hls]; decide) (by rw [hT]; rfl) (S14.next hJ.st (Ex.refl _) 28 (fun e => absurd e (by decide))) (no_head (by decide))
      ·have ddg := hdep ⟨28, .guard⟩ (by simp) rfl
       have kg := ddg.2 _ rfl _ rfl
       have hg := hJ.vals 28 ddg.1
       rw [hT] at hg
       rw [show f 28 = .bool false from hg] at kg
       clear hg ddg
       rw [if_pos (wanted_of rfl rfl rfl kg)]
       clear kg
       intro K hK
       have q11 := hout 11 (outB_spec (by kernel_rfl))
       refine wp_mv _ rfl (hK _ _ ?_)
       rw [show a.eval (.tmp 11) = .pointer (some ⟨M2, 0, none⟩) from q11]
       exact hJ.next (by rw [hls]; decide) (by rw [hT]; rfl) (S14.next hJ.st (Ex.refl _) 29 (fun e => absurd e (by decide))) (no_head (by decide))
      ·have ddg := hdep ⟨28, .guard⟩ (by simp) rfl
       have kg := ddg.2 _ rfl _ rfl
       have hg := hJ.vals 28 ddg.1
       rw [hT] at hg
       rw [show f 28 = .bool false from hg] at kg
       clear hg ddg
       rw [if_pos (wanted_of rfl rfl rfl kg)]
       clear kg
       intro K hK
       have q107 := hJ.iq hT (hdep ⟨29, .data⟩ (by simp) rfl) rfl _ rfl _ rfl
       clear hsz hdep hout hlat
       go_simp
       refine (iall_any wc.heap.size M2 D2 r2 v2 wy (HCP.out.ext hJ.st.ex)).mono ?_
       rintro e wq ⟨va, zs, rfl, hrw, hct, xq⟩
       have hzl : zs.length = xs.length := by
        have h := congrArg List.length (hct.trans HVC.out)
        rw [List.length_map, List.length_map, HTOT.out] at h; exact h
       obtain ⟨ad, cap, eva, _⟩ := hrw.inn3
       exact hK _ _ (hJ.next (by rw [hls]; decide) (by rw [hT]; exact ⟨ad, cap, by rw [eva, hzl]⟩) (S14.next hJ.st xq 30 (fun e => absurd e (by decide))) (no_head (by decide)))
      ·have ddg := hdep ⟨28, .guard⟩ (by simp) rfl
       have kg := ddg.2 _ rfl _ rfl
       have hg := hJ.vals 28 ddg.1
       rw [hT] at hg
       rw [show f 28 = .bool false from hg] at kg
       clear hg ddg
       rw [if_pos (wanted_of rfl rfl rfl kg)]
       clear kg
       intro K hK
       have dd108 := hdep ⟨30, .data⟩ (by simp) rfl
       have q108 := dd108.2 _ rfl _ rfl
       have h108 := hJ.vals 30 dd108.1
       rw [hT] at h108
       have h108 : (fun zz => ∃ ad cap, zz = .slice ad xs.length cap) (f 30) := h108
       obtain ⟨ad30, cap30, e30⟩ := h108
       rw [e30] at q108
       clear dd108
       rw [Array.getD_eq_getD_getElem?] at q108
       clear hsz hdep hout hlat
       go_simp
       exact hK _ _ (hJ.next (by rw [hls]; decide) (by rw [hT]; first | rfl | exact congrArg (Value.int .i64) (by omega) | exact congrArg (Value.int .i64) (by rw [IntKind.wrap_i64]; omega) | exact congrArg Value.bool (decide_eq_false (by omega)) | exact congrArg Value.bool (decide_eq_true (by omega)) | exact congrArg (Value.int .u64) (by omega)) (S14.next hJ.st (Ex.refl _) 31 (fun e => absurd e (by decide))) (no_head (by decide)))
      ·have ddg := hdep ⟨28, .guard⟩ (by simp) rfl
       have kg := ddg.2 _ rfl _ rfl
       have hg := hJ.vals 28 ddg.1
       rw [hT] at hg
       rw [show f 28 = .bool false from hg] at kg
       clear hg ddg
       rw [if_pos (wanted_of rfl rfl rfl kg)]
       clear kg
       intro K hK
       have q8 := hout 8 (outB_spec (by kernel_rfl))
       refine wp_mv _ rfl (hK _ _ ?_)
       rw [show a.eval (.tmp 8) = .pointer (some ⟨P, 0, none⟩) from q8]
       exact hJ.next (by rw [hls]; decide) (by rw [hT]; rfl) (S14.next hJ.st (Ex.refl _) 32 (fun e => absurd e (by decide))) (no_head (by decide))
      ·have ddg := hdep ⟨28, .guard⟩ (by simp) rfl
       have kg := ddg.2 _ rfl _ rfl
       have hg := hJ.vals 28 ddg.1
       rw [hT] at hg
       rw [show f 28 = .bool false from hg] at kg
       clear hg ddg
       rw [if_pos (wanted_of rfl rfl rfl kg)]
       clear kg
       intro K hK
       have q110 := hJ.iq hT (hdep ⟨32, .data⟩ (by simp) rfl) rfl _ rfl _ rfl
       clear hsz hdep hout hlat
       go_simp
       exact hK _ _ (hJ.next (by rw [hls]; decide) (by rw [hT]; first | rfl | exact congrArg (Value.int .i64) (by omega) | exact congrArg (Value.int .i64) (by rw [IntKind.wrap_i64]; omega) | exact congrArg Value.bool (decide_eq_false (by omega)) | exact congrArg Value.bool (decide_eq_true (by omega)) | exact congrArg (Value.int .u64) (by omega)) (S14.next hJ.st (Ex.refl _) 33 (fun e => absurd e (by decide))) (no_head (by decide)))
      ·have ddg := hdep ⟨28, .guard⟩ (by simp) rfl
       have kg := ddg.2 _ rfl _ rfl
       have hg := hJ.vals 28 ddg.1
       rw [hT] at hg
       rw [show f 28 = .bool false from hg] at kg
       clear hg ddg
       rw [if_pos (wanted_of rfl rfl rfl kg)]
       clear kg
       intro K hK
       have q111 := hJ.iq hT (hdep ⟨33, .data⟩ (by simp) rfl) rfl _ rfl _ rfl
       clear hsz hdep hout hlat
       go_simp
       exact hK _ _ (hJ.next (by rw [hls]; decide) (by rw [hT]; first | rfl | exact congrArg (Value.int .i64) (by omega) | exact congrArg (Value.int .i64) (by rw [IntKind.wrap_i64]; omega) | exact congrArg Value.bool (decide_eq_false (by omega)) | exact congrArg Value.bool (decide_eq_true (by omega)) | exact congrArg (Value.int .u64) (by omega)) (S14.next hJ.st (Ex.refl _) 34 (fun e => absurd e (by decide))) (no_head (by decide)))
      ·have ddg := hdep ⟨28, .guard⟩ (by simp) rfl
       have kg := ddg.2 _ rfl _ rfl
       have hg := hJ.vals 28 ddg.1
       rw [hT] at hg
       rw [show f 28 = .bool false from hg] at kg
       clear hg ddg
       rw [if_pos (wanted_of rfl rfl rfl kg)]
       clear kg
       intro K hK
       have q112 := hJ.iq hT (hdep ⟨34, .data⟩ (by simp) rfl) rfl _ rfl _ rfl
       have cc : wy.cell? ⟨P, 0, none⟩ = some (.slice ad1 xs1.length cap1) := by rw [(HPN.out.pm.pb.blk.ext hJ.st.ex).cell]; simp [ERV.out]
       clear hsz hdep hout hlat
       go_simp
       exact hK _ _ (hJ.next (by rw [hls]; decide) (by rw [hT]; rfl) (S14.next hJ.st (Ex.refl _) 35 (fun e => absurd e (by decide))) (no_head (by decide)))
      ·have ddg := hdep ⟨28, .guard⟩ (by simp) rfl
       have kg := ddg.2 _ rfl _ rfl
       have hg := hJ.vals 28 ddg.1
       rw [hT] at hg
       rw [show f 28 = .bool false from hg] at kg
       clear hg ddg
       rw [if_pos (wanted_of rfl rfl rfl kg)]
       clear kg
       intro K hK
       have q113 := hJ.iq hT (hdep ⟨35, .data⟩ (by simp) rfl) rfl _ rfl _ rfl
       clear hsz hdep hout hlat
       go_simp
       exact hK _ _ (hJ.next (by rw [hls]; decide) (by rw [hT]; first | rfl | exact congrArg (Value.int .i64) (by omega) | exact congrArg (Value.int .i64) (by rw [IntKind.wrap_i64]; omega) | exact congrArg Value.bool (decide_eq_false (by omega)) | exact congrArg Value.bool (decide_eq_true (by omega)) | exact congrArg (Value.int .u64) (by omega)) (S14.next hJ.st (Ex.refl _) 36 (fun e => absurd e (by decide))) (no_head (by decide)))
      ·have ddg := hdep ⟨28, .guard⟩ (by simp) rfl
       have kg := ddg.2 _ rfl _ rfl
       have hg := hJ.vals 28 ddg.1
       rw [hT] at hg
       rw [show f 28 = .bool false from hg] at kg
       clear hg ddg
       rw [if_pos (wanted_of rfl rfl rfl kg)]
       clear kg
       intro K hK
       have q109 := hJ.iq hT (hdep ⟨31, .data⟩ (by simp) rfl) rfl _ rfl _ rfl
       have q114 := hJ.iq hT (hdep ⟨36, .data⟩ (by simp) rfl) rfl _ rfl _ rfl
       clear hsz hdep hout hlat
       go_simp
       exact hK _ _ (hJ.next (by rw [hls]; decide) (by rw [hT]; first | rfl | exact congrArg (Value.int .i64) (by omega) | exact congrArg (Value.int .i64) (by rw [IntKind.wrap_i64]; omega) | exact congrArg Value.bool (decide_eq_false (by omega)) | exact congrArg Value.bool (decide_eq_true (by omega)) | exact congrArg (Value.int .u64) (by omega)) (S14.next hJ.st (Ex.refl _) 37 (fun e => absurd e (by decide))) (no_head (by decide)))
      have q106 := hJ.iq hT (hdep ⟨28, .data⟩ (by simp) rfl) rfl _ rfl _ rfl
      have q115 := hJ.iq hT (hdep ⟨37, .data⟩ (by simp) rfl) rfl _ rfl _ rfl
      clear hsz hdep hout hlat
      go_simp
      exact hK _ _ (hJ.next (by rw [hls]; decide) (by rw [hT]; first | rfl | exact congrArg (Value.int .i64) (by omega) | exact congrArg (Value.int .i64) (by rw [IntKind.wrap_i64]; omega) | exact congrArg Value.bool (decide_eq_false (by omega)) | exact congrArg Value.bool (decide_eq_true (by omega)) | exact congrArg (Value.int .u64) (by omega)) (S14.next hJ.st (Ex.refl _) 38 (fun e => absurd e (by decide))) (no_head (by decide)))
     intro listed f wy hall hJ
     have f38 : f 38 = .bool false := by
      have h := hJ.vals 38 (hall 38 (by simp))
      rw [hT] at h; exact h
     have hst := hJ.st
     simp only [putAll, Act.put, List.setIfInBounds_toArray, List.set_cons_zero, List.set_cons_succ, Nat.zero_add, Nat.reduceAdd]
     have xx := hst.ex
     replace HPN := Lib.hid (HPN.out.ext xx)
     clear xx hst hS0
     rw [f38]
     clear f38
     clear hJ hall hT
     go_wp2_with fail
     go_roundw
     case rel => exact ⟨k + 1, r1, v1, rv1, xs1, by omega, by omega, HXL1.out, by go_num, HPN⟩
     case measure => simp [intOf]; omega
  by_cases hn2 : k < n
  ·have q2 : ¬ (k : Int) < (most : Int) := by omega
   have q1 : (k : Int) < (n : Int) := by omega
   go_wp2_with fail
   go_ret
   exact ⟨rfl, HPI.out.pm.ex⟩
  have q1 : ¬ (k : Int) < (n : Int) := by omega
  go_wp2_with fail
  go_ret
  exact ⟨rfl, HPI.out.pm.ex⟩
end Go.Proofs.Ytmjfnpmnhehnkaa
