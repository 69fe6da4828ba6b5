/- IdealLimits walked -/
import Derived.Test.YtmjfnpmnhehnkaaMi
import Derived.Test.YtmjfnpmnhehnkaaVmf
namespace Go.Proofs.Ytmjfnpmnhehnkaa
open Go.RowKit
set_option maxHeartbeats 16000000 in
set_option maxRecDepth 100000 in
theorem limits_any (ad : Option Addr) (cap : Nat) (l : List Kq) (hL : l.length ≤ 9223372036854775807) (w : World) (hin : Kp.In ad cap l w) : Calls Try.prog 11 #[.slice ad l.length cap] w fun e w' => e = .returned (.bool true) ∧ Ex w w' := by
 have hmm := @run_makeMap Try.prog
 have HIN := Lib.hid hin
 obtain ⟨n, hn⟩ : ∃ n, n = l.length := ⟨_, rfl⟩
 rw [← hn] at hL ⊢
 have HN := Lib.hid hn
 clear hn hin
 go_enter Try.func11, Try.ntmps11
 go_wp2_with (first | ((with_reducible refine stop_big ?_ ?_); (focus rfl)) | (with_reducible refine stop_build ?_) | ((with_reducible refine stop_beq ?_ ?_); (focus rfl)) | (with_reducible refine stop_load (t := 76) ?_) | (with_reducible refine stop_mu ?_) | (with_reducible refine stop_lk ?_) | (with_reducible refine stop_store (t := 3) ?_))
 refine (inew_any w).mono ?_
 rintro e w1 ⟨M, D, r, v, rfl, h1, h2, h3, h4⟩
 have HIM := Lib.hid h1
 have HM := Lib.hid h2
 have HV := Lib.hid (RightV.none h3)
 have HH := Lib.hid (Home.none h3)
 have HL := Lib.hid (fun fw fl => LimI.none (fw := fw) (fl := fl) h3)
 have BW := Lib.hid h4
 clear h1 h2 h3 h4
 go_wp2_with (first | ((with_reducible refine stop_big ?_ ?_); (focus rfl)) | (with_reducible refine stop_build ?_) | ((with_reducible refine stop_beq ?_ ?_); (focus rfl)) | (with_reducible refine stop_load (t := 76) ?_) | (with_reducible refine stop_mu ?_) | (with_reducible refine stop_lk ?_) | (with_reducible refine stop_store (t := 3) ?_))
 have x3 : Ex w1 ((w1.alloc (.map #[] 0)).alloc (.map #[] 0)) := Ex.trans (Ex.alloc _ _) (Ex.alloc _ _)
 have M1 : Hid (MI ((w1.alloc (.map #[] 0)).alloc (.map #[] 0)) w1.heap.size (fun _ => 0)) := Lib.hid ((mi_new w1).ext (Ex.alloc _ _))
 have M2 : Hid (MI ((w1.alloc (.map #[] 0)).alloc (.map #[] 0)) (w1.heap.size + 1) (fun _ => 0)) := Lib.hid (by have h := mi_new (w1.alloc (.map #[] 0)); rw [show (w1.alloc (.map #[] 0)).heap.size = w1.heap.size + 1 by simp] at h; exact h)
 have hmw := Below.size BW.out
 replace HIM := Lib.hid (HIM.out.ext x3)
 replace BW := Lib.hid (Ex.trans BW.out x3)
 clear x3
 change Code.wp _ _ _ _ ((w1.alloc (.map #[] 0)).alloc (.map #[] 0))
 generalize ((w1.alloc (.map #[] 0)).alloc (.map #[] 0)) = w3 at *
 generalize w1.heap.size = m at *
 clear hmm
 go_wp2_with (first | ((with_reducible refine stop_big ?_ ?_); (focus rfl)) | (with_reducible refine stop_build ?_) | ((with_reducible refine stop_beq ?_ ?_); (focus rfl)) | (with_reducible refine stop_load (t := 76) ?_) | (with_reducible refine stop_mu ?_) | (with_reducible refine stop_lk ?_) | (with_reducible refine stop_store (t := 3) ?_))
 go_loopw [6] (fun i wr => ∃ (k : Nat) (r : Nat → Value) (v : Nat → List Vt) (fw fl : List UInt8 → Int), k ≤ n ∧ k ≤ 80 ∧ i = .int .i64 k ∧ Hid (IM wr w.heap.size M D r v) ∧ Hid (RightV v) ∧ Hid (Home v) ∧ Hid (LimI v fw fl) ∧ Hid (MI wr m fl) ∧ Hid (MI wr (m + 1) fw) ∧ Hid (Ex w wr)) (fun i _ => n - (intOf i).toNat)
 case atStart => exact ⟨0, r, v, _, _, by omega, by omega, rfl, HIM, HV, HH, Lib.hid (HL.out _ _), M1, M2, BW⟩
 case round =>
  clear HIM HV HH HL M1 M2 BW
  obtain ⟨k, r, v, fw, fl, hk, hk80, rfl, HIM, HV, HH, HL, M1, M2, BW⟩ := hrel
  by_cases hlt2 : k < n ∧ k < 80
  ·obtain ⟨h1, h2⟩ := hlt2
   obtain ⟨ab, ofs, rfl, ha, hc⟩ := HIN.out.read (by rw [← HN.out]; omega)
   obtain ⟨x, hx⟩ : ∃ x, l[k]? = some x := ⟨_, List.getElem?_eq_getElem (by rw [← HN.out]; exact h1)⟩
   have XI := Lib.hid ((HIN.out.ins k x hx).ext BW.out)
   have XR : Hid (wr.rangeAt ab (ofs + k * 8) x.C) := Lib.hid (fun j u hu => (Below.cell (p := ⟨ab, ofs + k * 8 + j, none⟩) BW.out ha).trans (hc k x hx j u hu))
   have HAB : Hid (ab < wr.heap.size) := Lib.hid (Nat.lt_of_lt_of_le ha BW.out.sz)
   clear hc hx ha
   have q0 : (0 : Int) ≤ (k : Int) := by omega
   have q1 : (k : Int) < (n : Int) := by omega
   have q2 : (k : Int) < 80 := by omega
   go_wp2_with (first | ((with_reducible refine stop_big ?_ ?_); (focus rfl)) | (with_reducible refine stop_build ?_) | ((with_reducible refine stop_beq ?_ ?_); (focus rfl)) | (with_reducible refine stop_load (t := 76) ?_) | (with_reducible refine stop_mu ?_) | (with_reducible refine stop_lk ?_) | (with_reducible refine stop_store (t := 3) ?_))
   (with_reducible refine ⟨?_⟩); (with_reducible refine at_any ?_ ?_); (focus go_simp); refine fun K0 hK => ld_k _ ab (ofs + k * 8) x rfl rfl XR.out (hK _ _ ?_)
   clear hK
   go_wp2_with (first | ((with_reducible refine stop_big ?_ ?_); (focus rfl)) | (with_reducible refine stop_build ?_) | ((with_reducible refine stop_beq ?_ ?_); (focus rfl)) | (with_reducible refine stop_load (t := 76) ?_) | (with_reducible refine stop_mu ?_) | (with_reducible refine stop_lk ?_) | (with_reducible refine stop_store (t := 3) ?_))
   refine (req_any x wr XI.out).mono ?_
   rintro e w4 ⟨q, rfl, hqi, hqr, xx⟩
   have QI0 := Lib.hid hqi
   have QS := Lib.hid hqi.sec
   have QR := Lib.hid hqr
   have XID := Lib.hid XI.out.id
   replace HIM := Lib.hid (HIM.out.ext xx)
   replace M1 := Lib.hid (M1.out.ext xx)
   replace M2 := Lib.hid (M2.out.ext xx)
   replace BW := Lib.hid (Ex.trans BW.out xx)
   have BW4 := BW
   replace XR : Hid (w4.rangeAt ab (ofs + k * 8) x.C) := Lib.hid (fun j u hu => (Below.cell (p := ⟨ab, ofs + k * 8 + j, none⟩) xx HAB.out).trans (XR.out j u hu))
   replace HAB := Lib.hid (Nat.lt_of_lt_of_le HAB.out xx.sz)
   clear XI hqi hqr xx
   go_wp2_with (first | ((with_reducible refine stop_big ?_ ?_); (focus rfl)) | (with_reducible refine stop_build ?_) | ((with_reducible refine stop_beq ?_ ?_); (focus rfl)) | (with_reducible refine stop_load (t := 76) ?_) | (with_reducible refine stop_mu ?_) | (with_reducible refine stop_lk ?_) | (with_reducible refine stop_store (t := 3) ?_))
   (with_reducible refine ⟨?_⟩); (with_reducible refine at_any ?_ ?_); (focus go_simp); refine fun K0 hK => st_q _ _ w4.heap.size q rfl rfl rfl QI0.out.ok (Bk.new rfl _ _) (by rfl) (fun w5 hd ho => hK _ _ ?_)
   clear hK
   have xx : Ex w4 w5 := ho.below w4.heap.size (Nat.le_refl _) w4 (Ex.alloc w4 _)
   have c1 : w5.cell? ⟨ab, ofs + k * 8 + 1, none⟩ = some (.int .i64 x.id) := (Below.cell (p := ⟨ab, ofs + k * 8 + 1, none⟩) xx HAB.out).trans (XR.out 1 _ rfl)
   obtain ⟨i0, i1⟩ : i64 x.id := XID.out
   obtain ⟨g, hg⟩ : ∃ g, g = w4.heap.size := ⟨_, rfl⟩
   have X4 := Lib.hid xx
   have HG : Hid (w4.heap.size ≤ g) := Lib.hid (Nat.le_of_eq hg.symm)
   rw [← hg] at hd ⊢
   have Q1 := Lib.hid hd
   clear hg hd ho xx XR HAB XID
   go_wp2_with (first | ((with_reducible refine stop_big ?_ ?_); (focus rfl)) | (with_reducible refine stop_build ?_) | ((with_reducible refine stop_beq ?_ ?_); (focus rfl)) | (with_reducible refine stop_load (t := 76) ?_) | (with_reducible refine stop_mu ?_) | (with_reducible refine stop_lk ?_) | (with_reducible refine stop_store (t := 3) ?_))
   refine (id_any (x.id.tmod 5) (tm5 _) w5).mono ?_
   rintro e w6 ⟨d, rfl, hd4, xx⟩
   have HD4 := Lib.hid hd4
   replace Q1 := Lib.hid (Q1.out.ext xx)
   replace X4 := Lib.hid (Ex.trans X4.out xx)
   clear xx c1 hd4 i0 i1
   go_wp2_with (first | ((with_reducible refine stop_big ?_ ?_); (focus rfl)) | (with_reducible refine stop_build ?_) | ((with_reducible refine stop_beq ?_ ?_); (focus rfl)) | (with_reducible refine stop_load (t := 76) ?_) | (with_reducible refine stop_mu ?_) | (with_reducible refine stop_lk ?_) | (with_reducible refine stop_store (t := 3) ?_))
   (with_reducible refine ⟨?_⟩); (with_reducible refine at_any ?_ ?_); (focus go_simp); refine fun K0 hK => st_qid _ _ g q d rfl rfl rfl HD4.out Q1.out (fun w7 hd ho => hK _ _ ?_)
   clear hK
   replace X4 := Lib.hid (ho.below w4.heap.size HG.out w4 X4.out)
   replace Q1 := Lib.hid hd
   clear hd ho
   obtain ⟨q0c, q21, q22, q55, q56⟩ := Q1.out.cells
   clear q0c q21 q55 q56
   have hq4 := Q1.out.1.lim0
   have hq5 := Q1.out.1.lim1
   go_wp2_with (first | ((with_reducible refine stop_big ?_ ?_); (focus rfl)) | (with_reducible refine stop_build ?_) | ((with_reducible refine stop_beq ?_ ?_); (focus rfl)) | (with_reducible refine stop_load (t := 76) ?_) | (with_reducible refine stop_mu ?_) | (with_reducible refine stop_lk ?_) | (with_reducible refine stop_store (t := 3) ?_))
   (with_reducible refine ⟨?_⟩); (with_reducible refine at_any ?_ ?_); (focus go_simp); refine fun K0 hK => st_qlim (by kernel_rfl) _ _ g { q with id := d } (min q.lim 3) rfl rfl rfl (by have e : Qt.lim { q with id := d } = q.lim := rfl; omega) (by have e : Qt.lim { q with id := d } = q.lim := rfl; omega) Q1.out (fun w8 hd ho => hK _ _ ?_)
   clear hK
   replace X4 := Lib.hid (ho.below w4.heap.size HG.out w4 X4.out)
   obtain ⟨q7, hq7⟩ : ∃ y : Qt, y = { q with id := d, lim := min q.lim 3 } := ⟨_, rfl⟩
   replace Q1 : Hid (QB w8 g q7) := Lib.hid (by rw [hq7]; exact hd)
   have QI1 : Hid (QI w8 q7) := Lib.hid ⟨Q1.out.1, by rw [hq7]; exact QS.out.ext X4.out⟩
   have QID : Hid (q7.id = d) := Lib.hid (by rw [hq7])
   replace QR : Hid (q7.ct.right = true) := Lib.hid (by rw [hq7]; exact right_min3 QR.out d _ rfl)
   clear hd ho hq7 QS q22 hq4 hq5 QI0
   replace HIM := Lib.hid (HIM.out.ext X4.out)
   replace M1 := Lib.hid (M1.out.ext X4.out)
   replace M2 := Lib.hid (M2.out.ext X4.out)
   replace BW := Lib.hid (Ex.trans BW.out X4.out)
   clear X4 HG
   go_wp2_with (first | ((with_reducible refine stop_big ?_ ?_); (focus rfl)) | (with_reducible refine stop_build ?_) | ((with_reducible refine stop_beq ?_ ?_); (focus rfl)) | (with_reducible refine stop_load (t := 76) ?_) | (with_reducible refine stop_mu ?_) | (with_reducible refine stop_lk ?_) | (with_reducible refine stop_store (t := 3) ?_))
   (with_reducible refine ⟨?_⟩); (with_reducible refine at_any ?_ ?_); (focus go_simp); refine fun K0 hK => ld_q _ _ q7 rfl rfl Q1.out (hK _ _ ?_)
   clear hK
   go_wp2_with (first | ((with_reducible refine stop_big ?_ ?_); (focus rfl)) | (with_reducible refine stop_build ?_) | ((with_reducible refine stop_beq ?_ ?_); (focus rfl)) | (with_reducible refine stop_load (t := 76) ?_) | (with_reducible refine stop_mu ?_) | (with_reducible refine stop_lk ?_) | (with_reducible refine stop_store (t := 3) ?_))
   obtain ⟨s, hs, hs16⟩ := shv_range q7.id
   refine (ido_any w.heap.size M D r v q7 s hs hs16 w8 HIM.out HM.out QI1.out).mono ?_
   rintro e w9 ⟨y, r2, v2, rfl, hy, _, him, hst, htc⟩
   obtain ⟨fw2, fl2, hlk, hl2, hh2⟩ := lim_step hs16 (HIM.out.tidy HV.out hs16) HH.out HL.out (show q7.ct.id.length = 4 by rw [show q7.ct.id = d from QID.out]; exact HD4.out) hs QR.out hst
   replace M1 := Lib.hid (M1.out.tc htc (HIM.out.ts.tb s hs16))
   replace M2 := Lib.hid (M2.out.tc htc (HIM.out.ts.tb s hs16))
   replace Q1 : Hid (QB w9 g q7) := Lib.hid ⟨Q1.out.1, htc.kt9 (HIM.out.ts.tb s hs16) Q1.out.2 (by decide) (by decide)⟩
   replace BW := Lib.hid (htc.ex9 (HIM.out.ts.tb s hs16) BW.out (HIM.out.ts.lo s hs16))
   replace HIM := Lib.hid him
   replace HV := Lib.hid (hst.right hs16 HV.out)
   replace HH := Lib.hid hh2
   have HL2 := Lib.hid hl2
   have YO := Lib.hid hy
   have HLK := Lib.hid hlk
   clear hs hy him hst htc QI1 HL hl2 hh2 hlk QR
   go_wp2_with (first | ((with_reducible refine stop_big ?_ ?_); (focus rfl)) | (with_reducible refine stop_build ?_) | ((with_reducible refine stop_beq ?_ ?_); (focus rfl)) | (with_reducible refine stop_load (t := 76) ?_) | (with_reducible refine stop_mu ?_) | (with_reducible refine stop_lk ?_) | (with_reducible refine stop_store (t := 3) ?_))
   (with_reducible refine ⟨?_⟩); (with_reducible refine at_any ?_ ?_); (focus go_simp); refine fun K0 hK => st_r _ _ w9.heap.size y rfl rfl rfl YO.out (Bk.new rfl _ _) (by rfl) (fun wa hd ho => hK _ _ ?_)
   clear hK
   have xx : Ex w9 wa := ho.below w9.heap.size (Nat.le_refl _) w9 (Ex.alloc w9 _)
   replace HIM := Lib.hid (HIM.out.ext xx)
   replace M1 := Lib.hid (M1.out.ext xx)
   replace M2 := Lib.hid (M2.out.ext xx)
   replace Q1 := Lib.hid (Q1.out.ext xx)
   replace BW := Lib.hid (Ex.trans BW.out xx)
   obtain ⟨h8, hg⟩ : ∃ g, g = w9.heap.size := ⟨_, rfl⟩
   rw [← hg] at hd ⊢
   have R1 := Lib.hid hd
   clear hg hd ho xx
   have HLI : Hid (q7.id.length = 4) := Lib.hid (by rw [QID.out]; exact HD4.out)
   clear QID HD4 YO
   have hlk := HLK.out
   clear HLK
   generalize hyc : y.ct = yc at hlk
   generalize hqc : q7.ct = qc at hlk
   cases hlk with
    | fresh ho hw hsec l0 l1 =>
     have RW : Hid (y.why = 0) := Lib.hid (by rw [← hyc] at hw; exact hw)
     have RS : Hid (y.sec.l.length = 0) := Lib.hid (by rw [← hyc] at hsec; rw [show y.sec.l = [] from hsec]; rfl)
     subst hqc
     have l0 : 1 ≤ q7.lim := l0
     have l1 : q7.lim ≤ 32 := l1
     rcases ho with ho | ho
     ·have HO : Hid (q7.op = 1) := Lib.hid ho
      clear ho hw hsec hyc
      obtain ⟨q0c, q21, q22, q55, q56⟩ := Q1.out.cells
      obtain ⟨r0, r5, r6, r7, r8, r9⟩ := R1.out.cells
      unfold Pt.V at r7
      clear q21 q55 q56 r5 r8 r9
      rw [show y.why = 0 from RW.out] at r0
      rw [show q7.op = 1 from HO.out] at q0c
      rw [show y.sec.l.length = 0 from RS.out] at r7
      go_wp2_with (first | ((with_reducible refine stop_big ?_ ?_); (focus rfl)) | (with_reducible refine stop_build ?_) | ((with_reducible refine stop_beq ?_ ?_); (focus rfl)) | (with_reducible refine stop_load (t := 76) ?_) | (with_reducible refine stop_mu ?_) | (with_reducible refine stop_lk ?_) | (with_reducible refine stop_store (t := 3) ?_))
      (first | ((with_reducible refine ⟨?_⟩); (with_reducible refine at_not ?_ ?_); (focus (go_simp; done)); go_wp2_with (first | ((with_reducible refine stop_big ?_ ?_); (focus rfl)) | (with_reducible refine stop_build ?_) | ((with_reducible refine stop_beq ?_ ?_); (focus rfl)) | (with_reducible refine stop_load (t := 76) ?_) | (with_reducible refine stop_mu ?_) | (with_reducible refine stop_lk ?_) | (with_reducible refine stop_store (t := 3) ?_))) | skip)
      (first | ((with_reducible refine ⟨?_⟩); (with_reducible refine at_not ?_ ?_); (focus (go_simp; done)); go_wp2_with (first | ((with_reducible refine stop_big ?_ ?_); (focus rfl)) | (with_reducible refine stop_build ?_) | ((with_reducible refine stop_beq ?_ ?_); (focus rfl)) | (with_reducible refine stop_load (t := 76) ?_) | (with_reducible refine stop_mu ?_) | (with_reducible refine stop_lk ?_) | (with_reducible refine stop_store (t := 3) ?_))) | skip)
      clear q0c q22 r0 r6 r7
      have hS0 : ∀ (listed : Array Bool) (_ : Nat → Value), (∀ i, listed.getD i false = false) → E13 wa m fl fw q7.id q7.lim (listed.getD 8 false) (listed.getD 9 false) wa.drew := fun listed _ h0 => by rw [h0 8, h0 9]; exact E13.start (Below.refl wa.heap.size wa).drew (Nat.le_of_lt M1.out.lt) M1.out M2.out
      obtain ⟨T, hT⟩ : ∃ T : List (Value → Prop), T = [(fun x => x = .map (some m)), (fun x => x = .pointer (some ⟨g, 1, none⟩)), (fun x => x = digV q7.id), (fun x => x = .map (some (m + 1))), (fun x => x = .pointer (some ⟨g, 1, none⟩)), (fun x => x = digV q7.id), (fun x => x = .pointer (some ⟨g, 22, none⟩)), (fun x => x = .int .i64 q7.lim), (fun _ => True), (fun _ => True)] := ⟨_, rfl⟩
      refine wp_region_gen (JS T ([] : List (Nat × Nat)) (fun l _ w => E13 wa m fl fw q7.id q7.lim (l.getD 8 false) (l.getD 9 false) w)) (by kernel_rfl) (by kernel_rfl) (by kernel_rfl) (fitB_spec (by kernel_rfl)) (fun listed f h => JS.start listed f h (hS0 listed f h)) ?_ ?_
      ·intro i o ho
       have hi : i < 10 := (Array.getElem?_eq_some_iff.1 ho).1
       have hi' : i = 0 ∨ i = 1 ∨ i = 2 ∨ i = 3 ∨ i = 4 ∨ i = 5 ∨ i = 6 ∨ i = 7 ∨ i = 8 ∨ i = 9 := by omega
       clear hi
       rcases hi' with rfl | rfl | rfl | rfl | rfl | rfl | rfl | rfl | rfl | rfl
       all_goals (simp only [List.getElem?_toArray, List.getElem?_cons_zero, List.getElem?_cons_succ, Option.some.injEq] at ho; subst ho; intro listed f a wz hJ hsz hls hun hdep hout hlat)
       ·rw [if_pos (by rfl)]
        intro K hK
        have q4 := hout 4 (outB_spec (by kernel_rfl))
        have hord := no_ord 0 listed
        refine wp_mv _ rfl (hK _ _ ?_)
        rw [show a.eval (.tmp 4) = .map (some m) from q4]
        exact hJ.next (by rw [hls]; decide) (by rw [hT]; rfl) (E13.plain hJ.st 0 (by decide)) hord
       ·rw [if_pos (by rfl)]
        intro K hK
        have q7 := hout 7 (outB_spec (by kernel_rfl))
        have hord := no_ord 1 listed
        rw [Array.getD_eq_getD_getElem?] at q7
        clear hsz hdep hout hlat
        go_simp
        exact hK _ _ (hJ.next (by rw [hls]; decide) (by rw [hT]; first | rfl | exact int_eq (by omega) | exact int_eq (by rw [IntKind.wrap_i64]; omega) | exact congrArg Value.bool (decide_eq_false (by omega)) | exact congrArg Value.bool (decide_eq_true (by omega))) (E13.plain hJ.st 1 (by decide)) hord)
       ·rw [if_pos (by rfl)]
        intro K hK
        have dd58 := hdep ⟨1, .data⟩ (by simp) rfl
        have q58 := dd58.2 _ rfl _ rfl
        have h58 := hJ.vals 1 dd58.1
        rw [hT] at h58
        rw [show f 1 = .pointer (some ⟨g, 1, none⟩) from h58] at q58
        clear h58 dd58
        have hord := no_ord 2 listed
        exact ld_qid _ g q7 rfl q58 (Q1.out.kts0 (E13.k hJ.st)) (hK _ _ (hJ.next (by rw [hls]; decide) (by rw [hT]; rfl) (E13.plain hJ.st 2 (by decide)) hord))
       ·rw [if_pos (by rfl)]
        intro K hK
        have q5 := hout 5 (outB_spec (by kernel_rfl))
        have hord := no_ord 3 listed
        refine wp_mv _ rfl (hK _ _ ?_)
        rw [show a.eval (.tmp 5) = .map (some (m + 1)) from q5]
        exact hJ.next (by rw [hls]; decide) (by rw [hT]; rfl) (E13.plain hJ.st 3 (by decide)) hord
       ·rw [if_pos (by rfl)]
        intro K hK
        have q7 := hout 7 (outB_spec (by kernel_rfl))
        have hord := no_ord 4 listed
        rw [Array.getD_eq_getD_getElem?] at q7
        clear hsz hdep hout hlat
        go_simp
        exact hK _ _ (hJ.next (by rw [hls]; decide) (by rw [hT]; first | rfl | exact int_eq (by omega) | exact int_eq (by rw [IntKind.wrap_i64]; omega) | exact congrArg Value.bool (decide_eq_false (by omega)) | exact congrArg Value.bool (decide_eq_true (by omega))) (E13.plain hJ.st 4 (by decide)) hord)
       ·rw [if_pos (by rfl)]
        intro K hK
        have dd61 := hdep ⟨4, .data⟩ (by simp) rfl
        have q61 := dd61.2 _ rfl _ rfl
        have h61 := hJ.vals 4 dd61.1
        rw [hT] at h61
        rw [show f 4 = .pointer (some ⟨g, 1, none⟩) from h61] at q61
        clear h61 dd61
        have hord := no_ord 5 listed
        exact ld_qid _ g q7 rfl q61 (Q1.out.kts0 (E13.k hJ.st)) (hK _ _ (hJ.next (by rw [hls]; decide) (by rw [hT]; rfl) (E13.plain hJ.st 5 (by decide)) hord))
       ·rw [if_pos (by rfl)]
        intro K hK
        have q7 := hout 7 (outB_spec (by kernel_rfl))
        have hord := no_ord 6 listed
        rw [Array.getD_eq_getD_getElem?] at q7
        clear hsz hdep hout hlat
        go_simp
        exact hK _ _ (hJ.next (by rw [hls]; decide) (by rw [hT]; first | rfl | exact int_eq (by omega) | exact int_eq (by rw [IntKind.wrap_i64]; omega) | exact congrArg Value.bool (decide_eq_false (by omega)) | exact congrArg Value.bool (decide_eq_true (by omega))) (E13.plain hJ.st 6 (by decide)) hord)
       ·rw [if_pos (by rfl)]
        intro K hK
        have dd63 := hdep ⟨6, .data⟩ (by simp) rfl
        have q63 := dd63.2 _ rfl _ rfl
        have h63 := hJ.vals 6 dd63.1
        rw [hT] at h63
        rw [show f 6 = .pointer (some ⟨g, 22, none⟩) from h63] at q63
        clear h63 dd63
        have hord := no_ord 7 listed
        obtain ⟨_, _, q22, _, _⟩ := (QB.cells (Q1.out.kts0 (E13.k hJ.st)))
        rw [Array.getD_eq_getD_getElem?] at q63
        clear hsz hdep hout hlat
        go_simp
        exact hK _ _ (hJ.next (by rw [hls]; decide) (by rw [hT]; rfl) (E13.plain hJ.st 7 (by decide)) hord)
       ·rw [if_pos (by rfl)]
        intro K hK
        have dd57 := hdep ⟨0, .data⟩ (by simp) rfl
        have q57 := dd57.2 _ rfl _ rfl
        have h57 := hJ.vals 0 dd57.1
        rw [hT] at h57
        rw [show f 0 = .map (some m) from h57] at q57
        clear h57 dd57
        have dd59 := hdep ⟨2, .data⟩ (by simp) rfl
        have q59 := dd59.2 _ rfl _ rfl
        have h59 := hJ.vals 2 dd59.1
        rw [hT] at h59
        rw [show f 2 = digV q7.id from h59] at q59
        clear h59 dd59
        have dd64 := hdep ⟨7, .data⟩ (by simp) rfl
        have q64 := dd64.2 _ rfl _ rfl
        have h64 := hJ.vals 7 dd64.1
        rw [hT] at h64
        rw [show f 7 = .int .i64 q7.lim from h64] at q64
        clear h64 dd64
        have hord := no_ord 8 listed
        have m1 := E13.m1 hJ.st
        rw [hun] at m1
        exact wp_mup _ _ _ rfl m fl m1 q7.id q7.lim HLI.out q57 q59 q64 (fun wb hm mk => hK _ _ (hJ.next (by rw [hls]; decide) (by rw [hT]; trivial) (E13.s8 (by rw [hls]; decide) hJ.st hm mk) hord))
       ·rw [if_pos (by rfl)]
        intro K hK
        have dd60 := hdep ⟨3, .data⟩ (by simp) rfl
        have q60 := dd60.2 _ rfl _ rfl
        have h60 := hJ.vals 3 dd60.1
        rw [hT] at h60
        rw [show f 3 = .map (some (m + 1)) from h60] at q60
        clear h60 dd60
        have dd62 := hdep ⟨5, .data⟩ (by simp) rfl
        have q62 := dd62.2 _ rfl _ rfl
        have h62 := hJ.vals 5 dd62.1
        rw [hT] at h62
        rw [show f 5 = digV q7.id from h62] at q62
        clear h62 dd62
        have hord := no_ord 9 listed
        have m2 := E13.m2 hJ.st
        rw [hun] at m2
        exact wp_mup _ _ _ rfl (m + 1) fw m2 q7.id 0 HLI.out q60 q62 rfl (fun wb hm mk => hK _ _ (hJ.next (by rw [hls]; decide) (by rw [hT]; trivial) (E13.s9 (by rw [hls]; decide) hJ.st hm mk) hord))
      ·intro listed f wz hall hJ
       have hst := hJ.st
       simp only [putAll, Act.put, List.setIfInBounds_toArray, List.set_cons_zero, List.set_cons_succ, Nat.zero_add, Nat.reduceAdd]
       have hst : E13 wa m fl fw q7.id q7.lim (listed.getD 8 false) (listed.getD 9 false) wz := hst
       rw [hall 8 (by simp), hall 9 (by simp)] at hst
       replace BW := Lib.hid (hst.b w.heap.size hmw w BW.out)
       replace HIM := Lib.hid (HIM.out.kts0 hst.k)
       replace Q1 := Lib.hid (Q1.out.kts0 hst.k)
       replace R1 := Lib.hid (R1.out.kts0 hst.k)
       replace M1 : Hid (MI wz m (updK fl q7.id q7.lim)) := Lib.hid hst.m1
       replace M2 : Hid (MI wz (m + 1) (updK fw q7.id 0)) := Lib.hid hst.m2
       clear hJ hall hT
       generalize f 0 = y0
       generalize f 1 = y1
       generalize f 2 = y2
       generalize f 3 = y3
       generalize f 4 = y4
       generalize f 5 = y5
       generalize f 6 = y6
       generalize f 7 = y7
       clear hst hS0
       obtain ⟨q0c, q21, q22, q55, q56⟩ := Q1.out.cells
       obtain ⟨r0, r5, r6, r7, r8, r9⟩ := R1.out.cells
       unfold Pt.V at r7
       clear q21 q55 q56 r5 r8 r9
       rw [show y.why = 0 from RW.out] at r0
       rw [show q7.op = 1 from HO.out] at q0c
       rw [show y.sec.l.length = 0 from RS.out] at r7
       go_wp2_with (first | ((with_reducible refine stop_big ?_ ?_); (focus rfl)) | (with_reducible refine stop_build ?_) | ((with_reducible refine stop_beq ?_ ?_); (focus rfl)) | (with_reducible refine stop_load (t := 76) ?_) | (with_reducible refine stop_mu ?_) | (with_reducible refine stop_lk ?_) | (with_reducible refine stop_store (t := 3) ?_))
       (first | ((with_reducible refine ⟨?_⟩); (with_reducible refine at_not ?_ ?_); (focus (go_simp; done)); go_wp2_with (first | ((with_reducible refine stop_big ?_ ?_); (focus rfl)) | (with_reducible refine stop_build ?_) | ((with_reducible refine stop_beq ?_ ?_); (focus rfl)) | (with_reducible refine stop_load (t := 76) ?_) | (with_reducible refine stop_mu ?_) | (with_reducible refine stop_lk ?_) | (with_reducible refine stop_store (t := 3) ?_))) | skip)
       clear q0c q22 r0 r6 r7
       have hS0 : ∀ (listed : Array Bool) (f : Nat → Value), (∀ i, listed.getD i false = false) → Ex wz wz.drew := fun _ _ _ => (Below.refl wz.heap.size wz).drew
       obtain ⟨T, hT⟩ : ∃ T : List (Value → Prop), T = [(fun x => x = .pointer (some ⟨h8, 7, none⟩)), (fun x => x = .slice y.sec.ad (0 : Nat) y.sec.cap), (fun x => x = .int .i64 0), (fun x => x = .bool false), (fun x => x = .bool false), (fun x => x = undef), (fun x => x = undef), (fun x => x = undef), (fun x => x = undef), (fun x => x = undef), (fun x => x = undef), (fun x => x = undef), (fun x => x = undef), (fun x => x = undef), (fun x => x = .bool false)] := ⟨_, rfl⟩
       refine wp_region_gen (JS T ([] : List (Nat × Nat)) (fun _ _ w => Ex wz w)) (by kernel_rfl) (by kernel_rfl) (by kernel_rfl) (fitB_spec (by kernel_rfl)) (fun listed f h => JS.start listed f h (hS0 listed f h)) ?_ ?_
       ·intro i o ho
        have hi : i < 15 := (Array.getElem?_eq_some_iff.1 ho).1
        have hi' : i = 0 ∨ i = 1 ∨ i = 2 ∨ i = 3 ∨ i = 4 ∨ i = 5 ∨ i = 6 ∨ i = 7 ∨ i = 8 ∨ i = 9 ∨ i = 10 ∨ i = 11 ∨ i = 12 ∨ i = 13 ∨ i = 14 := by omega
        clear hi
        rcases hi' with rfl | rfl | rfl | rfl | rfl | rfl | rfl | rfl | rfl | rfl | rfl | rfl | rfl | rfl | rfl
        all_goals (simp only [List.getElem?_toArray, List.getElem?_cons_zero, List.getElem?_cons_succ, Option.some.injEq] at ho; subst ho; intro listed f a wy hJ hsz hls hun hdep hout hlat)
        ·rw [if_pos (by rfl)]
         intro K hK
         have q8 := hout 8 (outB_spec (by kernel_rfl))
         have hord := no_ord 0 listed
         rw [Array.getD_eq_getD_getElem?] at q8
         clear hsz hdep hout hlat
         go_simp
         exact hK _ _ (hJ.next (by rw [hls]; decide) (by rw [hT]; first | rfl | exact int_eq (by omega) | exact int_eq (by rw [IntKind.wrap_i64]; omega) | exact congrArg Value.bool (decide_eq_false (by omega)) | exact congrArg Value.bool (decide_eq_true (by omega))) (hJ.st) hord)
        ·rw [if_pos (by rfl)]
         intro K hK
         have dd98 := hdep ⟨0, .data⟩ (by simp) rfl
         have q98 := dd98.2 _ rfl _ rfl
         have h98 := hJ.vals 0 dd98.1
         rw [hT] at h98
         rw [show f 0 = .pointer (some ⟨h8, 7, none⟩) from h98] at q98
         clear h98 dd98
         have hord := no_ord 1 listed
         have cc := (RB.cells (R1.out.ext hJ.st))
         obtain ⟨_, _, r6, r7, _, _⟩ := cc
         unfold Pt.V at r7
         rw [show y.sec.l.length = 0 from RS.out] at r7
         rw [Array.getD_eq_getD_getElem?] at q98
         clear hsz hdep hout hlat
         go_simp
         exact hK _ _ (hJ.next (by rw [hls]; decide) (by rw [hT]; first | rfl | exact int_eq (by omega) | exact int_eq (by rw [IntKind.wrap_i64]; omega)) (hJ.st) hord)
        ·rw [if_pos (by rfl)]
         intro K hK
         have dd99 := hdep ⟨1, .data⟩ (by simp) rfl
         have q99 := dd99.2 _ rfl _ rfl
         have h99 := hJ.vals 1 dd99.1
         rw [hT] at h99
         rw [show f 1 = .slice y.sec.ad (0 : Nat) y.sec.cap from h99] at q99
         clear h99 dd99
         have hord := no_ord 2 listed
         rw [Array.getD_eq_getD_getElem?] at q99
         clear hsz hdep hout hlat
         go_simp
         exact hK _ _ (hJ.next (by rw [hls]; decide) (by rw [hT]; first | rfl | exact int_eq (by omega) | exact int_eq (by rw [IntKind.wrap_i64]; omega) | exact congrArg Value.bool (decide_eq_false (by omega)) | exact congrArg Value.bool (decide_eq_true (by omega))) (hJ.st) hord)
        ·rw [if_pos (by rfl)]
         intro K hK
         have dd100 := hdep ⟨2, .data⟩ (by simp) rfl
         have q100 := dd100.2 _ rfl _ rfl
         have h100 := hJ.vals 2 dd100.1
         rw [hT] at h100
         rw [show f 2 = .int .i64 0 from h100] at q100
         clear h100 dd100
         have hord := no_ord 3 listed
         rw [Array.getD_eq_getD_getElem?] at q100
         clear hsz hdep hout hlat
         go_simp
         exact hK _ _ (hJ.next (by rw [hls]; decide) (by rw [hT]; first | rfl | exact int_eq (by omega) | exact int_eq (by rw [IntKind.wrap_i64]; omega) | exact congrArg Value.bool (decide_eq_false (by omega)) | exact congrArg Value.bool (decide_eq_true (by omega))) (hJ.st) hord)
        ·rw [if_pos (by rfl)]
         intro K hK
         have dd101 := hdep ⟨3, .data⟩ (by simp) rfl
         have q101 := dd101.2 _ rfl _ rfl
         have h101 := hJ.vals 3 dd101.1
         rw [hT] at h101
         rw [show f 3 = .bool false from h101] at q101
         clear h101 dd101
         have hord := no_ord 4 listed
         refine wp_mv _ rfl (hK _ _ ?_)
         rw [show a.eval (.tmp 101) = .bool false from q101]
         exact hJ.next (by rw [hls]; decide) (by rw [hT]; rfl) (hJ.st) hord
        ·have ddg := hdep ⟨4, .guard⟩ (by simp) rfl
         have kg := ddg.2 _ rfl _ rfl
         have hg := hJ.vals 4 ddg.1
         rw [hT] at hg
         rw [show f 4 = .bool false from hg] at kg
         clear hg ddg
         have hord := no_ord 5 listed
         rw [if_neg (not_wanted rfl rfl rfl kg (by decide))]
         exact hJ.next (by rw [hls]; decide) (by rw [hT]; first | exact trivial | rfl) (hJ.st) hord
        ·have ddg := hdep ⟨4, .guard⟩ (by simp) rfl
         have kg := ddg.2 _ rfl _ rfl
         have hg := hJ.vals 4 ddg.1
         rw [hT] at hg
         rw [show f 4 = .bool false from hg] at kg
         clear hg ddg
         have hord := no_ord 6 listed
         rw [if_neg (not_wanted rfl rfl rfl kg (by decide))]
         exact hJ.next (by rw [hls]; decide) (by rw [hT]; first | exact trivial | rfl) (hJ.st) hord
        ·have ddg := hdep ⟨4, .guard⟩ (by simp) rfl
         have kg := ddg.2 _ rfl _ rfl
         have hg := hJ.vals 4 ddg.1
         rw [hT] at hg
         rw [show f 4 = .bool false from hg] at kg
         clear hg ddg
         have hord := no_ord 7 listed
         rw [if_neg (not_wanted rfl rfl rfl kg (by decide))]
         exact hJ.next (by rw [hls]; decide) (by rw [hT]; first | exact trivial | rfl) (hJ.st) hord
        ·have ddg := hdep ⟨4, .guard⟩ (by simp) rfl
         have kg := ddg.2 _ rfl _ rfl
         have hg := hJ.vals 4 ddg.1
         rw [hT] at hg
         rw [show f 4 = .bool false from hg] at kg
         clear hg ddg
         have hord := no_ord 8 listed
         rw [if_neg (not_wanted rfl rfl rfl kg (by decide))]
         exact hJ.next (by rw [hls]; decide) (by rw [hT]; first | exact trivial | rfl) (hJ.st) hord
        ·have ddg := hdep ⟨4, .guard⟩ (by simp) rfl
         have kg := ddg.2 _ rfl _ rfl
         have hg := hJ.vals 4 ddg.1
         rw [hT] at hg
         rw [show f 4 = .bool false from hg] at kg
         clear hg ddg
         have hord := no_ord 9 listed
         rw [if_neg (not_wanted rfl rfl rfl kg (by decide))]
         exact hJ.next (by rw [hls]; decide) (by rw [hT]; first | exact trivial | rfl) (hJ.st) hord
        ·have ddg := hdep ⟨4, .guard⟩ (by simp) rfl
         have kg := ddg.2 _ rfl _ rfl
         have hg := hJ.vals 4 ddg.1
         rw [hT] at hg
         rw [show f 4 = .bool false from hg] at kg
         clear hg ddg
         have hord := no_ord 10 listed
         rw [if_neg (not_wanted rfl rfl rfl kg (by decide))]
         exact hJ.next (by rw [hls]; decide) (by rw [hT]; first | exact trivial | rfl) (hJ.st) hord
        ·have ddg := hdep ⟨4, .guard⟩ (by simp) rfl
         have kg := ddg.2 _ rfl _ rfl
         have hg := hJ.vals 4 ddg.1
         rw [hT] at hg
         rw [show f 4 = .bool false from hg] at kg
         clear hg ddg
         have hord := no_ord 11 listed
         rw [if_neg (not_wanted rfl rfl rfl kg (by decide))]
         exact hJ.next (by rw [hls]; decide) (by rw [hT]; first | exact trivial | rfl) (hJ.st) hord
        ·have ddg := hdep ⟨4, .guard⟩ (by simp) rfl
         have kg := ddg.2 _ rfl _ rfl
         have hg := hJ.vals 4 ddg.1
         rw [hT] at hg
         rw [show f 4 = .bool false from hg] at kg
         clear hg ddg
         have hord := no_ord 12 listed
         rw [if_neg (not_wanted rfl rfl rfl kg (by decide))]
         exact hJ.next (by rw [hls]; decide) (by rw [hT]; first | exact trivial | rfl) (hJ.st) hord
        ·have ddg := hdep ⟨4, .guard⟩ (by simp) rfl
         have kg := ddg.2 _ rfl _ rfl
         have hg := hJ.vals 4 ddg.1
         rw [hT] at hg
         rw [show f 4 = .bool false from hg] at kg
         clear hg ddg
         have hord := no_ord 13 listed
         rw [if_neg (not_wanted rfl rfl rfl kg (by decide))]
         exact hJ.next (by rw [hls]; decide) (by rw [hT]; first | exact trivial | rfl) (hJ.st) hord
        ·rw [if_pos (by rfl)]
         intro K hK
         have dd102 := hdep ⟨4, .data⟩ (by simp) rfl
         have q102 := dd102.2 _ rfl _ rfl
         have h102 := hJ.vals 4 dd102.1
         rw [hT] at h102
         rw [show f 4 = .bool false from h102] at q102
         clear h102 dd102
         have dd111 := hdep ⟨13, .data⟩ (by simp) rfl
         have q111 := dd111.2 _ rfl _ rfl
         have h111 := hJ.vals 13 dd111.1
         rw [hT] at h111
         rw [show f 13 = undef from h111] at q111
         clear h111 dd111
         have hord := no_ord 14 listed
         rw [Array.getD_eq_getD_getElem?] at q102
         rw [Array.getD_eq_getD_getElem?] at q111
         clear hsz hdep hout hlat
         go_simp
         exact hK _ _ (hJ.next (by rw [hls]; decide) (by rw [hT]; first | rfl | exact int_eq (by omega) | exact int_eq (by rw [IntKind.wrap_i64]; omega) | exact congrArg Value.bool (decide_eq_false (by omega)) | exact congrArg Value.bool (decide_eq_true (by omega))) (hJ.st) hord)
       ·intro listed f wy hall hJ
        have f14 : f 14 = .bool false := by
         have h := hJ.vals 14 (hall 14 (by simp))
         rw [hT] at h; exact h
        have hst := hJ.st
        simp only [putAll, Act.put, List.setIfInBounds_toArray, List.set_cons_zero, List.set_cons_succ, Nat.zero_add, Nat.reduceAdd]
        have xx : Ex wz wy := hst
        replace HIM := Lib.hid (HIM.out.ext xx)
        replace M1 := Lib.hid (M1.out.ext xx)
        replace M2 := Lib.hid (M2.out.ext xx)
        replace Q1 := Lib.hid (Q1.out.ext xx)
        replace R1 := Lib.hid (R1.out.ext xx)
        replace BW := Lib.hid (Ex.trans BW.out xx)
        rw [f14]
        clear f14
        clear hJ hall hT
        generalize f 0 = y0
        generalize f 1 = y1
        generalize f 2 = y2
        generalize f 3 = y3
        generalize f 4 = y4
        generalize f 5 = y5
        generalize f 6 = y6
        generalize f 7 = y7
        generalize f 8 = y8
        generalize f 9 = y9
        generalize f 10 = y10
        generalize f 11 = y11
        generalize f 12 = y12
        generalize f 13 = y13
        clear xx hst hS0
        go_wp2_with (first | ((with_reducible refine stop_big ?_ ?_); (focus rfl)) | (with_reducible refine stop_build ?_) | ((with_reducible refine stop_beq ?_ ?_); (focus rfl)) | (with_reducible refine stop_load (t := 76) ?_) | (with_reducible refine stop_mu ?_) | (with_reducible refine stop_lk ?_) | (with_reducible refine stop_store (t := 3) ?_))
        go_roundw
        case rel => exact ⟨k + 1, r2, v2, _, _, by omega, by omega, by go_num, HIM, HV, HH, HL2, M1, M2, BW⟩
        case measure => simp [intOf]; omega
     ·have HO : Hid (q7.op = 3) := Lib.hid ho
      clear ho hw hsec hyc
      obtain ⟨q0c, q21, q22, q55, q56⟩ := Q1.out.cells
      obtain ⟨r0, r5, r6, r7, r8, r9⟩ := R1.out.cells
      unfold Pt.V at r7
      clear q21 q55 q56 r5 r8 r9
      rw [show y.why = 0 from RW.out] at r0
      rw [show q7.op = 3 from HO.out] at q0c
      rw [show y.sec.l.length = 0 from RS.out] at r7
      go_wp2_with (first | ((with_reducible refine stop_big ?_ ?_); (focus rfl)) | (with_reducible refine stop_build ?_) | ((with_reducible refine stop_beq ?_ ?_); (focus rfl)) | (with_reducible refine stop_load (t := 76) ?_) | (with_reducible refine stop_mu ?_) | (with_reducible refine stop_lk ?_) | (with_reducible refine stop_store (t := 3) ?_))
      (first | ((with_reducible refine ⟨?_⟩); (with_reducible refine at_not ?_ ?_); (focus (go_simp; done)); go_wp2_with (first | ((with_reducible refine stop_big ?_ ?_); (focus rfl)) | (with_reducible refine stop_build ?_) | ((with_reducible refine stop_beq ?_ ?_); (focus rfl)) | (with_reducible refine stop_load (t := 76) ?_) | (with_reducible refine stop_mu ?_) | (with_reducible refine stop_lk ?_) | (with_reducible refine stop_store (t := 3) ?_))) | skip)
      (first | ((with_reducible refine ⟨?_⟩); (with_reducible refine at_not ?_ ?_); (focus (go_simp; done)); go_wp2_with (first | ((with_reducible refine stop_big ?_ ?_); (focus rfl)) | (with_reducible refine stop_build ?_) | ((with_reducible refine stop_beq ?_ ?_); (focus rfl)) | (with_reducible refine stop_load (t := 76) ?_) | (with_reducible refine stop_mu ?_) | (with_reducible refine stop_lk ?_) | (with_reducible refine stop_store (t := 3) ?_))) | skip)
      clear q0c q22 r0 r6 r7
      have hS0 : ∀ (listed : Array Bool) (_ : Nat → Value), (∀ i, listed.getD i false = false) → E13 wa m fl fw q7.id q7.lim (listed.getD 8 false) (listed.getD 9 false) wa.drew := fun listed _ h0 => by rw [h0 8, h0 9]; exact E13.start (Below.refl wa.heap.size wa).drew (Nat.le_of_lt M1.out.lt) M1.out M2.out
      obtain ⟨T, hT⟩ : ∃ T : List (Value → Prop), T = [(fun x => x = .map (some m)), (fun x => x = .pointer (some ⟨g, 1, none⟩)), (fun x => x = digV q7.id), (fun x => x = .map (some (m + 1))), (fun x => x = .pointer (some ⟨g, 1, none⟩)), (fun x => x = digV q7.id), (fun x => x = .pointer (some ⟨g, 22, none⟩)), (fun x => x = .int .i64 q7.lim), (fun _ => True), (fun _ => True)] := ⟨_, rfl⟩
      refine wp_region_gen (JS T ([] : List (Nat × Nat)) (fun l _ w => E13 wa m fl fw q7.id q7.lim (l.getD 8 false) (l.getD 9 false) w)) (by kernel_rfl) (by kernel_rfl) (by kernel_rfl) (fitB_spec (by kernel_rfl)) (fun listed f h => JS.start listed f h (hS0 listed f h)) ?_ ?_
      ·intro i o ho
       have hi : i < 10 := (Array.getElem?_eq_some_iff.1 ho).1
       have hi' : i = 0 ∨ i = 1 ∨ i = 2 ∨ i = 3 ∨ i = 4 ∨ i = 5 ∨ i = 6 ∨ i = 7 ∨ i = 8 ∨ i = 9 := by omega
       clear hi
       rcases hi' with rfl | rfl | rfl | rfl | rfl | rfl | rfl | rfl | rfl | rfl
       all_goals (simp only [List.getElem?_toArray, List.getElem?_cons_zero, List.getElem?_cons_succ, Option.some.injEq] at ho; subst ho; intro listed f a wz hJ hsz hls hun hdep hout hlat)
       ·rw [if_pos (by rfl)]
        intro K hK
        have q4 := hout 4 (outB_spec (by kernel_rfl))
        have hord := no_ord 0 listed
        refine wp_mv _ rfl (hK _ _ ?_)
        rw [show a.eval (.tmp 4) = .map (some m) from q4]
        exact hJ.next (by rw [hls]; decide) (by rw [hT]; rfl) (E13.plain hJ.st 0 (by decide)) hord
       ·rw [if_pos (by rfl)]
        intro K hK
        have q7 := hout 7 (outB_spec (by kernel_rfl))
        have hord := no_ord 1 listed
        rw [Array.getD_eq_getD_getElem?] at q7
        clear hsz hdep hout hlat
        go_simp
        exact hK _ _ (hJ.next (by rw [hls]; decide) (by rw [hT]; first | rfl | exact int_eq (by omega) | exact int_eq (by rw [IntKind.wrap_i64]; omega) | exact congrArg Value.bool (decide_eq_false (by omega)) | exact congrArg Value.bool (decide_eq_true (by omega))) (E13.plain hJ.st 1 (by decide)) hord)
       ·rw [if_pos (by rfl)]
        intro K hK
        have dd58 := hdep ⟨1, .data⟩ (by simp) rfl
        have q58 := dd58.2 _ rfl _ rfl
        have h58 := hJ.vals 1 dd58.1
        rw [hT] at h58
        rw [show f 1 = .pointer (some ⟨g, 1, none⟩) from h58] at q58
        clear h58 dd58
        have hord := no_ord 2 listed
        exact ld_qid _ g q7 rfl q58 (Q1.out.kts0 (E13.k hJ.st)) (hK _ _ (hJ.next (by rw [hls]; decide) (by rw [hT]; rfl) (E13.plain hJ.st 2 (by decide)) hord))
       ·rw [if_pos (by rfl)]
        intro K hK
        have q5 := hout 5 (outB_spec (by kernel_rfl))
        have hord := no_ord 3 listed
        refine wp_mv _ rfl (hK _ _ ?_)
        rw [show a.eval (.tmp 5) = .map (some (m + 1)) from q5]
        exact hJ.next (by rw [hls]; decide) (by rw [hT]; rfl) (E13.plain hJ.st 3 (by decide)) hord
       ·rw [if_pos (by rfl)]
        intro K hK
        have q7 := hout 7 (outB_spec (by kernel_rfl))
        have hord := no_ord 4 listed
        rw [Array.getD_eq_getD_getElem?] at q7
        clear hsz hdep hout hlat
        go_simp
        exact hK _ _ (hJ.next (by rw [hls]; decide) (by rw [hT]; first | rfl | exact int_eq (by omega) | exact int_eq (by rw [IntKind.wrap_i64]; omega) | exact congrArg Value.bool (decide_eq_false (by omega)) | exact congrArg Value.bool (decide_eq_true (by omega))) (E13.plain hJ.st 4 (by decide)) hord)
       ·rw [if_pos (by rfl)]
        intro K hK
        have dd61 := hdep ⟨4, .data⟩ (by simp) rfl
        have q61 := dd61.2 _ rfl _ rfl
        have h61 := hJ.vals 4 dd61.1
        rw [hT] at h61
        rw [show f 4 = .pointer (some ⟨g, 1, none⟩) from h61] at q61
        clear h61 dd61
        have hord := no_ord 5 listed
        exact ld_qid _ g q7 rfl q61 (Q1.out.kts0 (E13.k hJ.st)) (hK _ _ (hJ.next (by rw [hls]; decide) (by rw [hT]; rfl) (E13.plain hJ.st 5 (by decide)) hord))
       ·rw [if_pos (by rfl)]
        intro K hK
        have q7 := hout 7 (outB_spec (by kernel_rfl))
        have hord := no_ord 6 listed
        rw [Array.getD_eq_getD_getElem?] at q7
        clear hsz hdep hout hlat
        go_simp
        exact hK _ _ (hJ.next (by rw [hls]; decide) (by rw [hT]; first | rfl | exact int_eq (by omega) | exact int_eq (by rw [IntKind.wrap_i64]; omega) | exact congrArg Value.bool (decide_eq_false (by omega)) | exact congrArg Value.bool (decide_eq_true (by omega))) (E13.plain hJ.st 6 (by decide)) hord)
       ·rw [if_pos (by rfl)]
        intro K hK
        have dd63 := hdep ⟨6, .data⟩ (by simp) rfl
        have q63 := dd63.2 _ rfl _ rfl
        have h63 := hJ.vals 6 dd63.1
        rw [hT] at h63
        rw [show f 6 = .pointer (some ⟨g, 22, none⟩) from h63] at q63
        clear h63 dd63
        have hord := no_ord 7 listed
        obtain ⟨_, _, q22, _, _⟩ := (QB.cells (Q1.out.kts0 (E13.k hJ.st)))
        rw [Array.getD_eq_getD_getElem?] at q63
        clear hsz hdep hout hlat
        go_simp
        exact hK _ _ (hJ.next (by rw [hls]; decide) (by rw [hT]; rfl) (E13.plain hJ.st 7 (by decide)) hord)
       ·rw [if_pos (by rfl)]
        intro K hK
        have dd57 := hdep ⟨0, .data⟩ (by simp) rfl
        have q57 := dd57.2 _ rfl _ rfl
        have h57 := hJ.vals 0 dd57.1
        rw [hT] at h57
        rw [show f 0 = .map (some m) from h57] at q57
        clear h57 dd57
        have dd59 := hdep ⟨2, .data⟩ (by simp) rfl
        have q59 := dd59.2 _ rfl _ rfl
        have h59 := hJ.vals 2 dd59.1
        rw [hT] at h59
        rw [show f 2 = digV q7.id from h59] at q59
        clear h59 dd59
        have dd64 := hdep ⟨7, .data⟩ (by simp) rfl
        have q64 := dd64.2 _ rfl _ rfl
        have h64 := hJ.vals 7 dd64.1
        rw [hT] at h64
        rw [show f 7 = .int .i64 q7.lim from h64] at q64
        clear h64 dd64
        have hord := no_ord 8 listed
        have m1 := E13.m1 hJ.st
        rw [hun] at m1
        exact wp_mup _ _ _ rfl m fl m1 q7.id q7.lim HLI.out q57 q59 q64 (fun wb hm mk => hK _ _ (hJ.next (by rw [hls]; decide) (by rw [hT]; trivial) (E13.s8 (by rw [hls]; decide) hJ.st hm mk) hord))
       ·rw [if_pos (by rfl)]
        intro K hK
        have dd60 := hdep ⟨3, .data⟩ (by simp) rfl
        have q60 := dd60.2 _ rfl _ rfl
        have h60 := hJ.vals 3 dd60.1
        rw [hT] at h60
        rw [show f 3 = .map (some (m + 1)) from h60] at q60
        clear h60 dd60
        have dd62 := hdep ⟨5, .data⟩ (by simp) rfl
        have q62 := dd62.2 _ rfl _ rfl
        have h62 := hJ.vals 5 dd62.1
        rw [hT] at h62
        rw [show f 5 = digV q7.id from h62] at q62
        clear h62 dd62
        have hord := no_ord 9 listed
        have m2 := E13.m2 hJ.st
        rw [hun] at m2
        exact wp_mup _ _ _ rfl (m + 1) fw m2 q7.id 0 HLI.out q60 q62 rfl (fun wb hm mk => hK _ _ (hJ.next (by rw [hls]; decide) (by rw [hT]; trivial) (E13.s9 (by rw [hls]; decide) hJ.st hm mk) hord))
      ·intro listed f wz hall hJ
       have hst := hJ.st
       simp only [putAll, Act.put, List.setIfInBounds_toArray, List.set_cons_zero, List.set_cons_succ, Nat.zero_add, Nat.reduceAdd]
       have hst : E13 wa m fl fw q7.id q7.lim (listed.getD 8 false) (listed.getD 9 false) wz := hst
       rw [hall 8 (by simp), hall 9 (by simp)] at hst
       replace BW := Lib.hid (hst.b w.heap.size hmw w BW.out)
       replace HIM := Lib.hid (HIM.out.kts0 hst.k)
       replace Q1 := Lib.hid (Q1.out.kts0 hst.k)
       replace R1 := Lib.hid (R1.out.kts0 hst.k)
       replace M1 : Hid (MI wz m (updK fl q7.id q7.lim)) := Lib.hid hst.m1
       replace M2 : Hid (MI wz (m + 1) (updK fw q7.id 0)) := Lib.hid hst.m2
       clear hJ hall hT
       generalize f 0 = y0
       generalize f 1 = y1
       generalize f 2 = y2
       generalize f 3 = y3
       generalize f 4 = y4
       generalize f 5 = y5
       generalize f 6 = y6
       generalize f 7 = y7
       clear hst hS0
       obtain ⟨q0c, q21, q22, q55, q56⟩ := Q1.out.cells
       obtain ⟨r0, r5, r6, r7, r8, r9⟩ := R1.out.cells
       unfold Pt.V at r7
       clear q21 q55 q56 r5 r8 r9
       rw [show y.why = 0 from RW.out] at r0
       rw [show q7.op = 3 from HO.out] at q0c
       rw [show y.sec.l.length = 0 from RS.out] at r7
       go_wp2_with (first | ((with_reducible refine stop_big ?_ ?_); (focus rfl)) | (with_reducible refine stop_build ?_) | ((with_reducible refine stop_beq ?_ ?_); (focus rfl)) | (with_reducible refine stop_load (t := 76) ?_) | (with_reducible refine stop_mu ?_) | (with_reducible refine stop_lk ?_) | (with_reducible refine stop_store (t := 3) ?_))
       (first | ((with_reducible refine ⟨?_⟩); (with_reducible refine at_not ?_ ?_); (focus (go_simp; done)); go_wp2_with (first | ((with_reducible refine stop_big ?_ ?_); (focus rfl)) | (with_reducible refine stop_build ?_) | ((with_reducible refine stop_beq ?_ ?_); (focus rfl)) | (with_reducible refine stop_load (t := 76) ?_) | (with_reducible refine stop_mu ?_) | (with_reducible refine stop_lk ?_) | (with_reducible refine stop_store (t := 3) ?_))) | skip)
       clear q0c q22 r0 r6 r7
       have hS0 : ∀ (listed : Array Bool) (f : Nat → Value), (∀ i, listed.getD i false = false) → Ex wz wz.drew := fun _ _ _ => (Below.refl wz.heap.size wz).drew
       obtain ⟨T, hT⟩ : ∃ T : List (Value → Prop), T = [(fun x => x = .pointer (some ⟨h8, 7, none⟩)), (fun x => x = .slice y.sec.ad (0 : Nat) y.sec.cap), (fun x => x = .int .i64 0), (fun x => x = .bool false), (fun x => x = .bool false), (fun x => x = undef), (fun x => x = undef), (fun x => x = undef), (fun x => x = undef), (fun x => x = undef), (fun x => x = undef), (fun x => x = undef), (fun x => x = undef), (fun x => x = undef), (fun x => x = .bool false)] := ⟨_, rfl⟩
       refine wp_region_gen (JS T ([] : List (Nat × Nat)) (fun _ _ w => Ex wz w)) (by kernel_rfl) (by kernel_rfl) (by kernel_rfl) (fitB_spec (by kernel_rfl)) (fun listed f h => JS.start listed f h (hS0 listed f h)) ?_ ?_
       ·intro i o ho
        have hi : i < 15 := (Array.getElem?_eq_some_iff.1 ho).1
        have hi' : i = 0 ∨ i = 1 ∨ i = 2 ∨ i = 3 ∨ i = 4 ∨ i = 5 ∨ i = 6 ∨ i = 7 ∨ i = 8 ∨ i = 9 ∨ i = 10 ∨ i = 11 ∨ i = 12 ∨ i = 13 ∨ i = 14 := by omega
        clear hi
        rcases hi' with rfl | rfl | rfl | rfl | rfl | rfl | rfl | rfl | rfl | rfl | rfl | rfl | rfl | rfl | rfl
        all_goals (simp only [List.getElem?_toArray, List.getElem?_cons_zero, List.getElem?_cons_succ, Option.some.injEq] at ho; subst ho; intro listed f a wy hJ hsz hls hun hdep hout hlat)
        ·rw [if_pos (by rfl)]
         intro K hK
         have q8 := hout 8 (outB_spec (by kernel_rfl))
         have hord := no_ord 0 listed
         rw [Array.getD_eq_getD_getElem?] at q8
         clear hsz hdep hout hlat
         go_simp
         exact hK _ _ (hJ.next (by rw [hls]; decide) (by rw [hT]; first | rfl | exact int_eq (by omega) | exact int_eq (by rw [IntKind.wrap_i64]; omega) | exact congrArg Value.bool (decide_eq_false (by omega)) | exact congrArg Value.bool (decide_eq_true (by omega))) (hJ.st) hord)
        ·rw [if_pos (by rfl)]
         intro K hK
         have dd98 := hdep ⟨0, .data⟩ (by simp) rfl
         have q98 := dd98.2 _ rfl _ rfl
         have h98 := hJ.vals 0 dd98.1
         rw [hT] at h98
         rw [show f 0 = .pointer (some ⟨h8, 7, none⟩) from h98] at q98
         clear h98 dd98
         have hord := no_ord 1 listed
         have cc := (RB.cells (R1.out.ext hJ.st))
         obtain ⟨_, _, r6, r7, _, _⟩ := cc
         unfold Pt.V at r7
         rw [show y.sec.l.length = 0 from RS.out] at r7
         rw [Array.getD_eq_getD_getElem?] at q98
         clear hsz hdep hout hlat
         go_simp
         exact hK _ _ (hJ.next (by rw [hls]; decide) (by rw [hT]; first | rfl | exact int_eq (by omega) | exact int_eq (by rw [IntKind.wrap_i64]; omega)) (hJ.st) hord)
        ·rw [if_pos (by rfl)]
         intro K hK
         have dd99 := hdep ⟨1, .data⟩ (by simp) rfl
         have q99 := dd99.2 _ rfl _ rfl
         have h99 := hJ.vals 1 dd99.1
         rw [hT] at h99
         rw [show f 1 = .slice y.sec.ad (0 : Nat) y.sec.cap from h99] at q99
         clear h99 dd99
         have hord := no_ord 2 listed
         rw [Array.getD_eq_getD_getElem?] at q99
         clear hsz hdep hout hlat
         go_simp
         exact hK _ _ (hJ.next (by rw [hls]; decide) (by rw [hT]; first | rfl | exact int_eq (by omega) | exact int_eq (by rw [IntKind.wrap_i64]; omega) | exact congrArg Value.bool (decide_eq_false (by omega)) | exact congrArg Value.bool (decide_eq_true (by omega))) (hJ.st) hord)
        ·rw [if_pos (by rfl)]
         intro K hK
         have dd100 := hdep ⟨2, .data⟩ (by simp) rfl
         have q100 := dd100.2 _ rfl _ rfl
         have h100 := hJ.vals 2 dd100.1
         rw [hT] at h100
         rw [show f 2 = .int .i64 0 from h100] at q100
         clear h100 dd100
         have hord := no_ord 3 listed
         rw [Array.getD_eq_getD_getElem?] at q100
         clear hsz hdep hout hlat
         go_simp
         exact hK _ _ (hJ.next (by rw [hls]; decide) (by rw [hT]; first | rfl | exact int_eq (by omega) | exact int_eq (by rw [IntKind.wrap_i64]; omega) | exact congrArg Value.bool (decide_eq_false (by omega)) | exact congrArg Value.bool (decide_eq_true (by omega))) (hJ.st) hord)
        ·rw [if_pos (by rfl)]
         intro K hK
         have dd101 := hdep ⟨3, .data⟩ (by simp) rfl
         have q101 := dd101.2 _ rfl _ rfl
         have h101 := hJ.vals 3 dd101.1
         rw [hT] at h101
         rw [show f 3 = .bool false from h101] at q101
         clear h101 dd101
         have hord := no_ord 4 listed
         refine wp_mv _ rfl (hK _ _ ?_)
         rw [show a.eval (.tmp 101) = .bool false from q101]
         exact hJ.next (by rw [hls]; decide) (by rw [hT]; rfl) (hJ.st) hord
        ·have ddg := hdep ⟨4, .guard⟩ (by simp) rfl
         have kg := ddg.2 _ rfl _ rfl
         have hg := hJ.vals 4 ddg.1
         rw [hT] at hg
         rw [show f 4 = .bool false from hg] at kg
         clear hg ddg
         have hord := no_ord 5 listed
         rw [if_neg (not_wanted rfl rfl rfl kg (by decide))]
         exact hJ.next (by rw [hls]; decide) (by rw [hT]; first | exact trivial | rfl) (hJ.st) hord
        ·have ddg := hdep ⟨4, .guard⟩ (by simp) rfl
         have kg := ddg.2 _ rfl _ rfl
         have hg := hJ.vals 4 ddg.1
         rw [hT] at hg
         rw [show f 4 = .bool false from hg] at kg
         clear hg ddg
         have hord := no_ord 6 listed
         rw [if_neg (not_wanted rfl rfl rfl kg (by decide))]
         exact hJ.next (by rw [hls]; decide) (by rw [hT]; first | exact trivial | rfl) (hJ.st) hord
        ·have ddg := hdep ⟨4, .guard⟩ (by simp) rfl
         have kg := ddg.2 _ rfl _ rfl
         have hg := hJ.vals 4 ddg.1
         rw [hT] at hg
         rw [show f 4 = .bool false from hg] at kg
         clear hg ddg
         have hord := no_ord 7 listed
         rw [if_neg (not_wanted rfl rfl rfl kg (by decide))]
         exact hJ.next (by rw [hls]; decide) (by rw [hT]; first | exact trivial | rfl) (hJ.st) hord
        ·have ddg := hdep ⟨4, .guard⟩ (by simp) rfl
         have kg := ddg.2 _ rfl _ rfl
         have hg := hJ.vals 4 ddg.1
         rw [hT] at hg
         rw [show f 4 = .bool false from hg] at kg
         clear hg ddg
         have hord := no_ord 8 listed
         rw [if_neg (not_wanted rfl rfl rfl kg (by decide))]
         exact hJ.next (by rw [hls]; decide) (by rw [hT]; first | exact trivial | rfl) (hJ.st) hord
        ·have ddg := hdep ⟨4, .guard⟩ (by simp) rfl
         have kg := ddg.2 _ rfl _ rfl
         have hg := hJ.vals 4 ddg.1
         rw [hT] at hg
         rw [show f 4 = .bool false from hg] at kg
         clear hg ddg
         have hord := no_ord 9 listed
         rw [if_neg (not_wanted rfl rfl rfl kg (by decide))]
         exact hJ.next (by rw [hls]; decide) (by rw [hT]; first | exact trivial | rfl) (hJ.st) hord
        ·have ddg := hdep ⟨4, .guard⟩ (by simp) rfl
         have kg := ddg.2 _ rfl _ rfl
         have hg := hJ.vals 4 ddg.1
         rw [hT] at hg
         rw [show f 4 = .bool false from hg] at kg
         clear hg ddg
         have hord := no_ord 10 listed
         rw [if_neg (not_wanted rfl rfl rfl kg (by decide))]
         exact hJ.next (by rw [hls]; decide) (by rw [hT]; first | exact trivial | rfl) (hJ.st) hord
        ·have ddg := hdep ⟨4, .guard⟩ (by simp) rfl
         have kg := ddg.2 _ rfl _ rfl
         have hg := hJ.vals 4 ddg.1
         rw [hT] at hg
         rw [show f 4 = .bool false from hg] at kg
         clear hg ddg
         have hord := no_ord 11 listed
         rw [if_neg (not_wanted rfl rfl rfl kg (by decide))]
         exact hJ.next (by rw [hls]; decide) (by rw [hT]; first | exact trivial | rfl) (hJ.st) hord
        ·have ddg := hdep ⟨4, .guard⟩ (by simp) rfl
         have kg := ddg.2 _ rfl _ rfl
         have hg := hJ.vals 4 ddg.1
         rw [hT] at hg
         rw [show f 4 = .bool false from hg] at kg
         clear hg ddg
         have hord := no_ord 12 listed
         rw [if_neg (not_wanted rfl rfl rfl kg (by decide))]
         exact hJ.next (by rw [hls]; decide) (by rw [hT]; first | exact trivial | rfl) (hJ.st) hord
        ·have ddg := hdep ⟨4, .guard⟩ (by simp) rfl
         have kg := ddg.2 _ rfl _ rfl
         have hg := hJ.vals 4 ddg.1
         rw [hT] at hg
         rw [show f 4 = .bool false from hg] at kg
         clear hg ddg
         have hord := no_ord 13 listed
         rw [if_neg (not_wanted rfl rfl rfl kg (by decide))]
         exact hJ.next (by rw [hls]; decide) (by rw [hT]; first | exact trivial | rfl) (hJ.st) hord
        ·rw [if_pos (by rfl)]
         intro K hK
         have dd102 := hdep ⟨4, .data⟩ (by simp) rfl
         have q102 := dd102.2 _ rfl _ rfl
         have h102 := hJ.vals 4 dd102.1
         rw [hT] at h102
         rw [show f 4 = .bool false from h102] at q102
         clear h102 dd102
         have dd111 := hdep ⟨13, .data⟩ (by simp) rfl
         have q111 := dd111.2 _ rfl _ rfl
         have h111 := hJ.vals 13 dd111.1
         rw [hT] at h111
         rw [show f 13 = undef from h111] at q111
         clear h111 dd111
         have hord := no_ord 14 listed
         rw [Array.getD_eq_getD_getElem?] at q102
         rw [Array.getD_eq_getD_getElem?] at q111
         clear hsz hdep hout hlat
         go_simp
         exact hK _ _ (hJ.next (by rw [hls]; decide) (by rw [hT]; first | rfl | exact int_eq (by omega) | exact int_eq (by rw [IntKind.wrap_i64]; omega) | exact congrArg Value.bool (decide_eq_false (by omega)) | exact congrArg Value.bool (decide_eq_true (by omega))) (hJ.st) hord)
       ·intro listed f wy hall hJ
        have f14 : f 14 = .bool false := by
         have h := hJ.vals 14 (hall 14 (by simp))
         rw [hT] at h; exact h
        have hst := hJ.st
        simp only [putAll, Act.put, List.setIfInBounds_toArray, List.set_cons_zero, List.set_cons_succ, Nat.zero_add, Nat.reduceAdd]
        have xx : Ex wz wy := hst
        replace HIM := Lib.hid (HIM.out.ext xx)
        replace M1 := Lib.hid (M1.out.ext xx)
        replace M2 := Lib.hid (M2.out.ext xx)
        replace Q1 := Lib.hid (Q1.out.ext xx)
        replace R1 := Lib.hid (R1.out.ext xx)
        replace BW := Lib.hid (Ex.trans BW.out xx)
        rw [f14]
        clear f14
        clear hJ hall hT
        generalize f 0 = y0
        generalize f 1 = y1
        generalize f 2 = y2
        generalize f 3 = y3
        generalize f 4 = y4
        generalize f 5 = y5
        generalize f 6 = y6
        generalize f 7 = y7
        generalize f 8 = y8
        generalize f 9 = y9
        generalize f 10 = y10
        generalize f 11 = y11
        generalize f 12 = y12
        generalize f 13 = y13
        clear xx hst hS0
        go_wp2_with (first | ((with_reducible refine stop_big ?_ ?_); (focus rfl)) | (with_reducible refine stop_build ?_) | ((with_reducible refine stop_beq ?_ ?_); (focus rfl)) | (with_reducible refine stop_load (t := 76) ?_) | (with_reducible refine stop_mu ?_) | (with_reducible refine stop_lk ?_) | (with_reducible refine stop_store (t := 3) ?_))
        go_roundw
        case rel => exact ⟨k + 1, r2, v2, _, _, by omega, by omega, by go_num, HIM, HV, HH, HL2, M1, M2, BW⟩
        case measure => simp [intOf]; omega
    | refused h0 h23 hsec =>
     have RS : Hid (y.sec.l.length = 0) := Lib.hid (by rw [← hyc] at hsec; rw [show y.sec.l = [] from hsec]; rfl)
     rw [← hyc] at h0 h23
     have h0 : y.why ≠ 0 := h0
     have h23 : y.why ≠ 23 := h23
     have HE0 := decide_eq_false h0
     have HE23 := decide_eq_false h23
     subst hqc
     clear hyc hsec h0 h23
     obtain ⟨q0c, q21, q22, q55, q56⟩ := Q1.out.cells
     obtain ⟨r0, r5, r6, r7, r8, r9⟩ := R1.out.cells
     unfold Pt.V at r7
     clear q21 q55 q56 r5 r8 r9
     rw [show y.sec.l.length = 0 from RS.out] at r7
     go_wp2_with (first | ((with_reducible refine stop_big ?_ ?_); (focus rfl)) | (with_reducible refine stop_build ?_) | ((with_reducible refine stop_beq ?_ ?_); (focus rfl)) | (with_reducible refine stop_load (t := 76) ?_) | (with_reducible refine stop_mu ?_) | (with_reducible refine stop_lk ?_) | (with_reducible refine stop_store (t := 3) ?_) | (with_reducible refine stop_eql (t := 45) ?_))
     (with_reducible refine ⟨?_⟩); (with_reducible refine at_any ?_ ?_); (focus go_simp); refine fun K0 hK => wp_eql_err _ _ _ rfl y.why 0 rfl rfl (hK _ _ ?_)
     clear hK
     rw [HE0]
     go_wp2_with (first | ((with_reducible refine stop_big ?_ ?_); (focus rfl)) | (with_reducible refine stop_build ?_) | ((with_reducible refine stop_beq ?_ ?_); (focus rfl)) | (with_reducible refine stop_load (t := 76) ?_) | (with_reducible refine stop_mu ?_) | (with_reducible refine stop_lk ?_) | (with_reducible refine stop_store (t := 3) ?_) | (with_reducible refine stop_eql (t := 45) ?_))
     (with_reducible refine ⟨?_⟩); (with_reducible refine at_any ?_ ?_); (focus go_simp); refine fun K0 hK => wp_eql_err _ _ _ rfl y.why 23 rfl rfl (hK _ _ ?_)
     clear hK
     rw [HE23]
     go_wp2_with (first | ((with_reducible refine stop_big ?_ ?_); (focus rfl)) | (with_reducible refine stop_build ?_) | ((with_reducible refine stop_beq ?_ ?_); (focus rfl)) | (with_reducible refine stop_load (t := 76) ?_) | (with_reducible refine stop_mu ?_) | (with_reducible refine stop_lk ?_) | (with_reducible refine stop_store (t := 3) ?_))
     (first | ((with_reducible refine ⟨?_⟩); (with_reducible refine at_not ?_ ?_); (focus (go_simp; done)); go_wp2_with (first | ((with_reducible refine stop_big ?_ ?_); (focus rfl)) | (with_reducible refine stop_build ?_) | ((with_reducible refine stop_beq ?_ ?_); (focus rfl)) | (with_reducible refine stop_load (t := 76) ?_) | (with_reducible refine stop_mu ?_) | (with_reducible refine stop_lk ?_) | (with_reducible refine stop_store (t := 3) ?_))) | skip)
     clear q0c q22 r0 r6 r7
     have hS0 : ∀ (listed : Array Bool) (f : Nat → Value), (∀ i, listed.getD i false = false) → Ex wa wa.drew := fun _ _ _ => (Below.refl wa.heap.size wa).drew
     obtain ⟨T, hT⟩ : ∃ T : List (Value → Prop), T = [(fun x => x = .pointer (some ⟨h8, 7, none⟩)), (fun x => x = .slice y.sec.ad (0 : Nat) y.sec.cap), (fun x => x = .int .i64 0), (fun x => x = .bool false), (fun x => x = .bool false), (fun x => x = undef), (fun x => x = undef), (fun x => x = undef), (fun x => x = undef), (fun x => x = undef), (fun x => x = undef), (fun x => x = undef), (fun x => x = undef), (fun x => x = undef), (fun x => x = .bool false)] := ⟨_, rfl⟩
     refine wp_region_gen (JS T ([] : List (Nat × Nat)) (fun _ _ w => Ex wa w)) (by kernel_rfl) (by kernel_rfl) (by kernel_rfl) (fitB_spec (by kernel_rfl)) (fun listed f h => JS.start listed f h (hS0 listed f h)) ?_ ?_
     ·intro i o ho
      have hi : i < 15 := (Array.getElem?_eq_some_iff.1 ho).1
      have hi' : i = 0 ∨ i = 1 ∨ i = 2 ∨ i = 3 ∨ i = 4 ∨ i = 5 ∨ i = 6 ∨ i = 7 ∨ i = 8 ∨ i = 9 ∨ i = 10 ∨ i = 11 ∨ i = 12 ∨ i = 13 ∨ i = 14 := by omega
      clear hi
      rcases hi' with rfl | rfl | rfl | rfl | rfl | rfl | rfl | rfl | rfl | rfl | rfl | rfl | rfl | rfl | rfl
      all_goals (simp only [List.getElem?_toArray, List.getElem?_cons_zero, List.getElem?_cons_succ, Option.some.injEq] at ho; subst ho; intro listed f a wy hJ hsz hls hun hdep hout hlat)
      ·rw [if_pos (by rfl)]
       intro K hK
       have q8 := hout 8 (outB_spec (by kernel_rfl))
       have hord := no_ord 0 listed
       rw [Array.getD_eq_getD_getElem?] at q8
       clear hsz hdep hout hlat
       go_simp
       exact hK _ _ (hJ.next (by rw [hls]; decide) (by rw [hT]; first | rfl | exact int_eq (by omega) | exact int_eq (by rw [IntKind.wrap_i64]; omega) | exact congrArg Value.bool (decide_eq_false (by omega)) | exact congrArg Value.bool (decide_eq_true (by omega))) (hJ.st) hord)
      ·rw [if_pos (by rfl)]
       intro K hK
       have dd98 := hdep ⟨0, .data⟩ (by simp) rfl
       have q98 := dd98.2 _ rfl _ rfl
       have h98 := hJ.vals 0 dd98.1
       rw [hT] at h98
       rw [show f 0 = .pointer (some ⟨h8, 7, none⟩) from h98] at q98
       clear h98 dd98
       have hord := no_ord 1 listed
       have cc := (RB.cells (R1.out.ext hJ.st))
       obtain ⟨_, _, r6, r7, _, _⟩ := cc
       unfold Pt.V at r7
       rw [show y.sec.l.length = 0 from RS.out] at r7
       rw [Array.getD_eq_getD_getElem?] at q98
       clear hsz hdep hout hlat
       go_simp
       exact hK _ _ (hJ.next (by rw [hls]; decide) (by rw [hT]; first | rfl | exact int_eq (by omega) | exact int_eq (by rw [IntKind.wrap_i64]; omega)) (hJ.st) hord)
      ·rw [if_pos (by rfl)]
       intro K hK
       have dd99 := hdep ⟨1, .data⟩ (by simp) rfl
       have q99 := dd99.2 _ rfl _ rfl
       have h99 := hJ.vals 1 dd99.1
       rw [hT] at h99
       rw [show f 1 = .slice y.sec.ad (0 : Nat) y.sec.cap from h99] at q99
       clear h99 dd99
       have hord := no_ord 2 listed
       rw [Array.getD_eq_getD_getElem?] at q99
       clear hsz hdep hout hlat
       go_simp
       exact hK _ _ (hJ.next (by rw [hls]; decide) (by rw [hT]; first | rfl | exact int_eq (by omega) | exact int_eq (by rw [IntKind.wrap_i64]; omega) | exact congrArg Value.bool (decide_eq_false (by omega)) | exact congrArg Value.bool (decide_eq_true (by omega))) (hJ.st) hord)
      ·rw [if_pos (by rfl)]
       intro K hK
       have dd100 := hdep ⟨2, .data⟩ (by simp) rfl
       have q100 := dd100.2 _ rfl _ rfl
       have h100 := hJ.vals 2 dd100.1
       rw [hT] at h100
       rw [show f 2 = .int .i64 0 from h100] at q100
       clear h100 dd100
       have hord := no_ord 3 listed
       rw [Array.getD_eq_getD_getElem?] at q100
       clear hsz hdep hout hlat
       go_simp
       exact hK _ _ (hJ.next (by rw [hls]; decide) (by rw [hT]; first | rfl | exact int_eq (by omega) | exact int_eq (by rw [IntKind.wrap_i64]; omega) | exact congrArg Value.bool (decide_eq_false (by omega)) | exact congrArg Value.bool (decide_eq_true (by omega))) (hJ.st) hord)
      ·rw [if_pos (by rfl)]
       intro K hK
       have dd101 := hdep ⟨3, .data⟩ (by simp) rfl
       have q101 := dd101.2 _ rfl _ rfl
       have h101 := hJ.vals 3 dd101.1
       rw [hT] at h101
       rw [show f 3 = .bool false from h101] at q101
       clear h101 dd101
       have hord := no_ord 4 listed
       refine wp_mv _ rfl (hK _ _ ?_)
       rw [show a.eval (.tmp 101) = .bool false from q101]
       exact hJ.next (by rw [hls]; decide) (by rw [hT]; rfl) (hJ.st) hord
      ·have ddg := hdep ⟨4, .guard⟩ (by simp) rfl
       have kg := ddg.2 _ rfl _ rfl
       have hg := hJ.vals 4 ddg.1
       rw [hT] at hg
       rw [show f 4 = .bool false from hg] at kg
       clear hg ddg
       have hord := no_ord 5 listed
       rw [if_neg (not_wanted rfl rfl rfl kg (by decide))]
       exact hJ.next (by rw [hls]; decide) (by rw [hT]; first | exact trivial | rfl) (hJ.st) hord
      ·have ddg := hdep ⟨4, .guard⟩ (by simp) rfl
       have kg := ddg.2 _ rfl _ rfl
       have hg := hJ.vals 4 ddg.1
       rw [hT] at hg
       rw [show f 4 = .bool false from hg] at kg
       clear hg ddg
       have hord := no_ord 6 listed
       rw [if_neg (not_wanted rfl rfl rfl kg (by decide))]
       exact hJ.next (by rw [hls]; decide) (by rw [hT]; first | exact trivial | rfl) (hJ.st) hord
      ·have ddg := hdep ⟨4, .guard⟩ (by simp) rfl
       have kg := ddg.2 _ rfl _ rfl
       have hg := hJ.vals 4 ddg.1
       rw [hT] at hg
       rw [show f 4 = .bool false from hg] at kg
       clear hg ddg
       have hord := no_ord 7 listed
       rw [if_neg (not_wanted rfl rfl rfl kg (by decide))]
       exact hJ.next (by rw [hls]; decide) (by rw [hT]; first | exact trivial | rfl) (hJ.st) hord
      ·have ddg := hdep ⟨4, .guard⟩ (by simp) rfl
       have kg := ddg.2 _ rfl _ rfl
       have hg := hJ.vals 4 ddg.1
       rw [hT] at hg
       rw [show f 4 = .bool false from hg] at kg
       clear hg ddg
       have hord := no_ord 8 listed
       rw [if_neg (not_wanted rfl rfl rfl kg (by decide))]
       exact hJ.next (by rw [hls]; decide) (by rw [hT]; first | exact trivial | rfl) (hJ.st) hord
      ·have ddg := hdep ⟨4, .guard⟩ (by simp) rfl
       have kg := ddg.2 _ rfl _ rfl
       have hg := hJ.vals 4 ddg.1
       rw [hT] at hg
       rw [show f 4 = .bool false from hg] at kg
       clear hg ddg
       have hord := no_ord 9 listed
       rw [if_neg (not_wanted rfl rfl rfl kg (by decide))]
       exact hJ.next (by rw [hls]; decide) (by rw [hT]; first | exact trivial | rfl) (hJ.st) hord
      ·have ddg := hdep ⟨4, .guard⟩ (by simp) rfl
       have kg := ddg.2 _ rfl _ rfl
       have hg := hJ.vals 4 ddg.1
       rw [hT] at hg
       rw [show f 4 = .bool false from hg] at kg
       clear hg ddg
       have hord := no_ord 10 listed
       rw [if_neg (not_wanted rfl rfl rfl kg (by decide))]
       exact hJ.next (by rw [hls]; decide) (by rw [hT]; first | exact trivial | rfl) (hJ.st) hord
      ·have ddg := hdep ⟨4, .guard⟩ (by simp) rfl
       have kg := ddg.2 _ rfl _ rfl
       have hg := hJ.vals 4 ddg.1
       rw [hT] at hg
       rw [show f 4 = .bool false from hg] at kg
       clear hg ddg
       have hord := no_ord 11 listed
       rw [if_neg (not_wanted rfl rfl rfl kg (by decide))]
       exact hJ.next (by rw [hls]; decide) (by rw [hT]; first | exact trivial | rfl) (hJ.st) hord
      ·have ddg := hdep ⟨4, .guard⟩ (by simp) rfl
       have kg := ddg.2 _ rfl _ rfl
       have hg := hJ.vals 4 ddg.1
       rw [hT] at hg
       rw [show f 4 = .bool false from hg] at kg
       clear hg ddg
       have hord := no_ord 12 listed
       rw [if_neg (not_wanted rfl rfl rfl kg (by decide))]
       exact hJ.next (by rw [hls]; decide) (by rw [hT]; first | exact trivial | rfl) (hJ.st) hord
      ·have ddg := hdep ⟨4, .guard⟩ (by simp) rfl
       have kg := ddg.2 _ rfl _ rfl
       have hg := hJ.vals 4 ddg.1
       rw [hT] at hg
       rw [show f 4 = .bool false from hg] at kg
       clear hg ddg
       have hord := no_ord 13 listed
       rw [if_neg (not_wanted rfl rfl rfl kg (by decide))]
       exact hJ.next (by rw [hls]; decide) (by rw [hT]; first | exact trivial | rfl) (hJ.st) hord
      ·rw [if_pos (by rfl)]
       intro K hK
       have dd102 := hdep ⟨4, .data⟩ (by simp) rfl
       have q102 := dd102.2 _ rfl _ rfl
       have h102 := hJ.vals 4 dd102.1
       rw [hT] at h102
       rw [show f 4 = .bool false from h102] at q102
       clear h102 dd102
       have dd111 := hdep ⟨13, .data⟩ (by simp) rfl
       have q111 := dd111.2 _ rfl _ rfl
       have h111 := hJ.vals 13 dd111.1
       rw [hT] at h111
       rw [show f 13 = undef from h111] at q111
       clear h111 dd111
       have hord := no_ord 14 listed
       rw [Array.getD_eq_getD_getElem?] at q102
       rw [Array.getD_eq_getD_getElem?] at q111
       clear hsz hdep hout hlat
       go_simp
       exact hK _ _ (hJ.next (by rw [hls]; decide) (by rw [hT]; first | rfl | exact int_eq (by omega) | exact int_eq (by rw [IntKind.wrap_i64]; omega) | exact congrArg Value.bool (decide_eq_false (by omega)) | exact congrArg Value.bool (decide_eq_true (by omega))) (hJ.st) hord)
     ·intro listed f wy hall hJ
      have f14 : f 14 = .bool false := by
       have h := hJ.vals 14 (hall 14 (by simp))
       rw [hT] at h; exact h
      have hst := hJ.st
      simp only [putAll, Act.put, List.setIfInBounds_toArray, List.set_cons_zero, List.set_cons_succ, Nat.zero_add, Nat.reduceAdd]
      have xx : Ex wa wy := hst
      replace HIM := Lib.hid (HIM.out.ext xx)
      replace M1 := Lib.hid (M1.out.ext xx)
      replace M2 := Lib.hid (M2.out.ext xx)
      replace Q1 := Lib.hid (Q1.out.ext xx)
      replace R1 := Lib.hid (R1.out.ext xx)
      replace BW := Lib.hid (Ex.trans BW.out xx)
      rw [f14]
      clear f14
      clear hJ hall hT
      generalize f 0 = y0
      generalize f 1 = y1
      generalize f 2 = y2
      generalize f 3 = y3
      generalize f 4 = y4
      generalize f 5 = y5
      generalize f 6 = y6
      generalize f 7 = y7
      generalize f 8 = y8
      generalize f 9 = y9
      generalize f 10 = y10
      generalize f 11 = y11
      generalize f 12 = y12
      generalize f 13 = y13
      clear xx hst hS0
      go_wp2_with (first | ((with_reducible refine stop_big ?_ ?_); (focus rfl)) | (with_reducible refine stop_build ?_) | ((with_reducible refine stop_beq ?_ ?_); (focus rfl)) | (with_reducible refine stop_load (t := 76) ?_) | (with_reducible refine stop_mu ?_) | (with_reducible refine stop_lk ?_) | (with_reducible refine stop_store (t := 3) ?_))
      go_roundw
      case rel => exact ⟨k + 1, r2, v2, _, _, by omega, by omega, by go_num, HIM, HV, HH, HL2, M1, M2, BW⟩
      case measure => simp [intOf]; omega
    | told ho hw u l3 hu hl3 u0 ul l1 =>
     have RW : Hid (y.why = 0) := Lib.hid (by rw [← hyc] at hw; exact hw)
     subst hqc
     have HO : Hid (q7.op = 2) := Lib.hid ho
     have HFW : Hid (fw q7.id = u) := Lib.hid hu
     have HFL : Hid (fl q7.id = l3) := Lib.hid hl3
     clear hyc ho hw hu hl3
     obtain ⟨q0c, q21, q22, q55, q56⟩ := Q1.out.cells
     obtain ⟨r0, r5, r6, r7, r8, r9⟩ := R1.out.cells
     unfold Pt.V at r7
     clear q21 q55 q56 r5 r8 r9
     rw [show y.why = 0 from RW.out] at r0
     rw [show q7.op = 2 from HO.out] at q0c
     go_wp2_with (first | ((with_reducible refine stop_big ?_ ?_); (focus rfl)) | (with_reducible refine stop_build ?_) | ((with_reducible refine stop_beq ?_ ?_); (focus rfl)) | (with_reducible refine stop_load (t := 76) ?_) | (with_reducible refine stop_mu ?_) | (with_reducible refine stop_lk ?_) | (with_reducible refine stop_store (t := 3) ?_))
     (first | ((with_reducible refine ⟨?_⟩); (with_reducible refine at_not ?_ ?_); (focus (go_simp; done)); go_wp2_with (first | ((with_reducible refine stop_big ?_ ?_); (focus rfl)) | (with_reducible refine stop_build ?_) | ((with_reducible refine stop_beq ?_ ?_); (focus rfl)) | (with_reducible refine stop_load (t := 76) ?_) | (with_reducible refine stop_mu ?_) | (with_reducible refine stop_lk ?_) | (with_reducible refine stop_store (t := 3) ?_))) | skip)
     (first | ((with_reducible refine ⟨?_⟩); (with_reducible refine at_not ?_ ?_); (focus (go_simp; done)); go_wp2_with (first | ((with_reducible refine stop_big ?_ ?_); (focus rfl)) | (with_reducible refine stop_build ?_) | ((with_reducible refine stop_beq ?_ ?_); (focus rfl)) | (with_reducible refine stop_load (t := 76) ?_) | (with_reducible refine stop_mu ?_) | (with_reducible refine stop_lk ?_) | (with_reducible refine stop_store (t := 3) ?_))) | skip)
     clear q0c q22 r0 r6 r7
     by_cases hsl : 0 < y.sec.l.length
     ·have hsl2 : (0 : Int) < (y.sec.l.length : Int) := by omega
      have hS0 : ∀ (listed : Array Bool) (f : Nat → Value), (∀ i, listed.getD i false = false) → Ex wa wa.drew := fun _ _ _ => (Below.refl wa.heap.size wa).drew
      obtain ⟨T, hT⟩ : ∃ T : List (Value → Prop), T = [(fun x => x = .pointer (some ⟨h8, 7, none⟩)), (fun x => x = .slice y.sec.ad y.sec.l.length y.sec.cap), (fun x => x = .int .i64 (y.sec.l.length : Int)), (fun x => x = .bool true), (fun x => x = .bool true), (fun x => x = .map (some (m + 1))), (fun x => x = .pointer (some ⟨g, 1, none⟩)), (fun x => x = digV q7.id), (fun x => x = .int .i64 u), (fun x => x = .map (some m)), (fun x => x = .pointer (some ⟨g, 1, none⟩)), (fun x => x = digV q7.id), (fun x => x = .int .i64 l3), (fun x => x = .bool false), (fun x => x = .bool false)] := ⟨_, rfl⟩
      refine wp_region_gen (JS T ([] : List (Nat × Nat)) (fun _ _ w => Ex wa w)) (by kernel_rfl) (by kernel_rfl) (by kernel_rfl) (fitB_spec (by kernel_rfl)) (fun listed f h => JS.start listed f h (hS0 listed f h)) ?_ ?_
      ·intro i o ho
       have hi : i < 15 := (Array.getElem?_eq_some_iff.1 ho).1
       have hi' : i = 0 ∨ i = 1 ∨ i = 2 ∨ i = 3 ∨ i = 4 ∨ i = 5 ∨ i = 6 ∨ i = 7 ∨ i = 8 ∨ i = 9 ∨ i = 10 ∨ i = 11 ∨ i = 12 ∨ i = 13 ∨ i = 14 := by omega
       clear hi
       rcases hi' with rfl | rfl | rfl | rfl | rfl | rfl | rfl | rfl | rfl | rfl | rfl | rfl | rfl | rfl | rfl
       all_goals (simp only [List.getElem?_toArray, List.getElem?_cons_zero, List.getElem?_cons_succ, Option.some.injEq] at ho; subst ho; intro listed f a wy hJ hsz hls hun hdep hout hlat)
       ·rw [if_pos (by rfl)]
        intro K hK
        have q8 := hout 8 (outB_spec (by kernel_rfl))
        have hord := no_ord 0 listed
        rw [Array.getD_eq_getD_getElem?] at q8
        clear hsz hdep hout hlat
        go_simp
        exact hK _ _ (hJ.next (by rw [hls]; decide) (by rw [hT]; first | rfl | exact int_eq (by omega) | exact int_eq (by rw [IntKind.wrap_i64]; omega) | exact congrArg Value.bool (decide_eq_false (by omega)) | exact congrArg Value.bool (decide_eq_true (by omega))) (hJ.st) hord)
       ·rw [if_pos (by rfl)]
        intro K hK
        have dd98 := hdep ⟨0, .data⟩ (by simp) rfl
        have q98 := dd98.2 _ rfl _ rfl
        have h98 := hJ.vals 0 dd98.1
        rw [hT] at h98
        rw [show f 0 = .pointer (some ⟨h8, 7, none⟩) from h98] at q98
        clear h98 dd98
        have hord := no_ord 1 listed
        have cc := (RB.cells (R1.out.ext hJ.st))
        obtain ⟨_, _, r6, r7, _, _⟩ := cc
        unfold Pt.V at r7
        rw [Array.getD_eq_getD_getElem?] at q98
        clear hsz hdep hout hlat
        go_simp
        exact hK _ _ (hJ.next (by rw [hls]; decide) (by rw [hT]; first | rfl | exact int_eq (by omega) | exact int_eq (by rw [IntKind.wrap_i64]; omega)) (hJ.st) hord)
       ·rw [if_pos (by rfl)]
        intro K hK
        have dd99 := hdep ⟨1, .data⟩ (by simp) rfl
        have q99 := dd99.2 _ rfl _ rfl
        have h99 := hJ.vals 1 dd99.1
        rw [hT] at h99
        rw [show f 1 = .slice y.sec.ad y.sec.l.length y.sec.cap from h99] at q99
        clear h99 dd99
        have hord := no_ord 2 listed
        rw [Array.getD_eq_getD_getElem?] at q99
        clear hsz hdep hout hlat
        go_simp
        exact hK _ _ (hJ.next (by rw [hls]; decide) (by rw [hT]; first | rfl | exact int_eq (by omega) | exact int_eq (by rw [IntKind.wrap_i64]; omega) | exact congrArg Value.bool (decide_eq_false (by omega)) | exact congrArg Value.bool (decide_eq_true (by omega))) (hJ.st) hord)
       ·rw [if_pos (by rfl)]
        intro K hK
        have dd100 := hdep ⟨2, .data⟩ (by simp) rfl
        have q100 := dd100.2 _ rfl _ rfl
        have h100 := hJ.vals 2 dd100.1
        rw [hT] at h100
        rw [show f 2 = .int .i64 (y.sec.l.length : Int) from h100] at q100
        clear h100 dd100
        have hord := no_ord 3 listed
        rw [Array.getD_eq_getD_getElem?] at q100
        clear hsz hdep hout hlat
        go_simp
        exact hK _ _ (hJ.next (by rw [hls]; decide) (by rw [hT]; first | rfl | exact int_eq (by omega) | exact int_eq (by rw [IntKind.wrap_i64]; omega) | exact congrArg Value.bool (decide_eq_false (by omega)) | exact congrArg Value.bool (decide_eq_true (by omega))) (hJ.st) hord)
       ·rw [if_pos (by rfl)]
        intro K hK
        have dd101 := hdep ⟨3, .data⟩ (by simp) rfl
        have q101 := dd101.2 _ rfl _ rfl
        have h101 := hJ.vals 3 dd101.1
        rw [hT] at h101
        rw [show f 3 = .bool true from h101] at q101
        clear h101 dd101
        have hord := no_ord 4 listed
        refine wp_mv _ rfl (hK _ _ ?_)
        rw [show a.eval (.tmp 101) = .bool true from q101]
        exact hJ.next (by rw [hls]; decide) (by rw [hT]; rfl) (hJ.st) hord
       ·have ddg := hdep ⟨4, .guard⟩ (by simp) rfl
        have kg := ddg.2 _ rfl _ rfl
        have hg := hJ.vals 4 ddg.1
        rw [hT] at hg
        rw [show f 4 = .bool true from hg] at kg
        clear hg ddg
        rw [if_pos (wanted_of rfl rfl rfl kg)]
        clear kg
        intro K hK
        have q5 := hout 5 (outB_spec (by kernel_rfl))
        have hord := no_ord 5 listed
        refine wp_mv _ rfl (hK _ _ ?_)
        rw [show a.eval (.tmp 5) = .map (some (m + 1)) from q5]
        exact hJ.next (by rw [hls]; decide) (by rw [hT]; rfl) (hJ.st) hord
       ·have ddg := hdep ⟨4, .guard⟩ (by simp) rfl
        have kg := ddg.2 _ rfl _ rfl
        have hg := hJ.vals 4 ddg.1
        rw [hT] at hg
        rw [show f 4 = .bool true from hg] at kg
        clear hg ddg
        rw [if_pos (wanted_of rfl rfl rfl kg)]
        clear kg
        intro K hK
        have q7 := hout 7 (outB_spec (by kernel_rfl))
        have hord := no_ord 6 listed
        rw [Array.getD_eq_getD_getElem?] at q7
        clear hsz hdep hout hlat
        go_simp
        exact hK _ _ (hJ.next (by rw [hls]; decide) (by rw [hT]; first | rfl | exact int_eq (by omega) | exact int_eq (by rw [IntKind.wrap_i64]; omega) | exact congrArg Value.bool (decide_eq_false (by omega)) | exact congrArg Value.bool (decide_eq_true (by omega))) (hJ.st) hord)
       ·have ddg := hdep ⟨4, .guard⟩ (by simp) rfl
        have kg := ddg.2 _ rfl _ rfl
        have hg := hJ.vals 4 ddg.1
        rw [hT] at hg
        rw [show f 4 = .bool true from hg] at kg
        clear hg ddg
        rw [if_pos (wanted_of rfl rfl rfl kg)]
        clear kg
        intro K hK
        have dd104 := hdep ⟨6, .data⟩ (by simp) rfl
        have q104 := dd104.2 _ rfl _ rfl
        have h104 := hJ.vals 6 dd104.1
        rw [hT] at h104
        rw [show f 6 = .pointer (some ⟨g, 1, none⟩) from h104] at q104
        clear h104 dd104
        have hord := no_ord 7 listed
        exact ld_qid _ g q7 rfl q104 (Q1.out.ext hJ.st) (hK _ _ (hJ.next (by rw [hls]; decide) (by rw [hT]; rfl) (hJ.st) hord))
       ·have ddg := hdep ⟨4, .guard⟩ (by simp) rfl
        have kg := ddg.2 _ rfl _ rfl
        have hg := hJ.vals 4 ddg.1
        rw [hT] at hg
        rw [show f 4 = .bool true from hg] at kg
        clear hg ddg
        rw [if_pos (wanted_of rfl rfl rfl kg)]
        clear kg
        intro K hK
        have dd103 := hdep ⟨5, .data⟩ (by simp) rfl
        have q103 := dd103.2 _ rfl _ rfl
        have h103 := hJ.vals 5 dd103.1
        rw [hT] at h103
        rw [show f 5 = .map (some (m + 1)) from h103] at q103
        clear h103 dd103
        have dd105 := hdep ⟨7, .data⟩ (by simp) rfl
        have q105 := dd105.2 _ rfl _ rfl
        have h105 := hJ.vals 7 dd105.1
        rw [hT] at h105
        rw [show f 7 = digV q7.id from h105] at q105
        clear h105 dd105
        have hord := no_ord 8 listed
        exact wp_mlk _ _ rfl (m + 1) fw (M2.out.ext hJ.st) q7.id HLI.out q103 q105 (hK _ _ (hJ.next (by rw [hls]; decide) (by rw [hT]; exact congrArg (Value.int .i64) HFW.out) (hJ.st) hord))
       ·have ddg := hdep ⟨4, .guard⟩ (by simp) rfl
        have kg := ddg.2 _ rfl _ rfl
        have hg := hJ.vals 4 ddg.1
        rw [hT] at hg
        rw [show f 4 = .bool true from hg] at kg
        clear hg ddg
        rw [if_pos (wanted_of rfl rfl rfl kg)]
        clear kg
        intro K hK
        have q4 := hout 4 (outB_spec (by kernel_rfl))
        have hord := no_ord 9 listed
        refine wp_mv _ rfl (hK _ _ ?_)
        rw [show a.eval (.tmp 4) = .map (some m) from q4]
        exact hJ.next (by rw [hls]; decide) (by rw [hT]; rfl) (hJ.st) hord
       ·have ddg := hdep ⟨4, .guard⟩ (by simp) rfl
        have kg := ddg.2 _ rfl _ rfl
        have hg := hJ.vals 4 ddg.1
        rw [hT] at hg
        rw [show f 4 = .bool true from hg] at kg
        clear hg ddg
        rw [if_pos (wanted_of rfl rfl rfl kg)]
        clear kg
        intro K hK
        have q7 := hout 7 (outB_spec (by kernel_rfl))
        have hord := no_ord 10 listed
        rw [Array.getD_eq_getD_getElem?] at q7
        clear hsz hdep hout hlat
        go_simp
        exact hK _ _ (hJ.next (by rw [hls]; decide) (by rw [hT]; first | rfl | exact int_eq (by omega) | exact int_eq (by rw [IntKind.wrap_i64]; omega) | exact congrArg Value.bool (decide_eq_false (by omega)) | exact congrArg Value.bool (decide_eq_true (by omega))) (hJ.st) hord)
       ·have ddg := hdep ⟨4, .guard⟩ (by simp) rfl
        have kg := ddg.2 _ rfl _ rfl
        have hg := hJ.vals 4 ddg.1
        rw [hT] at hg
        rw [show f 4 = .bool true from hg] at kg
        clear hg ddg
        rw [if_pos (wanted_of rfl rfl rfl kg)]
        clear kg
        intro K hK
        have dd108 := hdep ⟨10, .data⟩ (by simp) rfl
        have q108 := dd108.2 _ rfl _ rfl
        have h108 := hJ.vals 10 dd108.1
        rw [hT] at h108
        rw [show f 10 = .pointer (some ⟨g, 1, none⟩) from h108] at q108
        clear h108 dd108
        have hord := no_ord 11 listed
        exact ld_qid _ g q7 rfl q108 (Q1.out.ext hJ.st) (hK _ _ (hJ.next (by rw [hls]; decide) (by rw [hT]; rfl) (hJ.st) hord))
       ·have ddg := hdep ⟨4, .guard⟩ (by simp) rfl
        have kg := ddg.2 _ rfl _ rfl
        have hg := hJ.vals 4 ddg.1
        rw [hT] at hg
        rw [show f 4 = .bool true from hg] at kg
        clear hg ddg
        rw [if_pos (wanted_of rfl rfl rfl kg)]
        clear kg
        intro K hK
        have dd107 := hdep ⟨9, .data⟩ (by simp) rfl
        have q107 := dd107.2 _ rfl _ rfl
        have h107 := hJ.vals 9 dd107.1
        rw [hT] at h107
        rw [show f 9 = .map (some m) from h107] at q107
        clear h107 dd107
        have dd109 := hdep ⟨11, .data⟩ (by simp) rfl
        have q109 := dd109.2 _ rfl _ rfl
        have h109 := hJ.vals 11 dd109.1
        rw [hT] at h109
        rw [show f 11 = digV q7.id from h109] at q109
        clear h109 dd109
        have hord := no_ord 12 listed
        exact wp_mlk _ _ rfl m fl (M1.out.ext hJ.st) q7.id HLI.out q107 q109 (hK _ _ (hJ.next (by rw [hls]; decide) (by rw [hT]; exact congrArg (Value.int .i64) HFL.out) (hJ.st) hord))
       ·have ddg := hdep ⟨4, .guard⟩ (by simp) rfl
        have kg := ddg.2 _ rfl _ rfl
        have hg := hJ.vals 4 ddg.1
        rw [hT] at hg
        rw [show f 4 = .bool true from hg] at kg
        clear hg ddg
        rw [if_pos (wanted_of rfl rfl rfl kg)]
        clear kg
        intro K hK
        have dd106 := hdep ⟨8, .data⟩ (by simp) rfl
        have q106 := dd106.2 _ rfl _ rfl
        have h106 := hJ.vals 8 dd106.1
        rw [hT] at h106
        rw [show f 8 = .int .i64 u from h106] at q106
        clear h106 dd106
        have dd110 := hdep ⟨12, .data⟩ (by simp) rfl
        have q110 := dd110.2 _ rfl _ rfl
        have h110 := hJ.vals 12 dd110.1
        rw [hT] at h110
        rw [show f 12 = .int .i64 l3 from h110] at q110
        clear h110 dd110
        have hord := no_ord 13 listed
        rw [Array.getD_eq_getD_getElem?] at q106
        rw [Array.getD_eq_getD_getElem?] at q110
        clear hsz hdep hout hlat
        go_simp
        exact hK _ _ (hJ.next (by rw [hls]; decide) (by rw [hT]; first | rfl | exact int_eq (by omega) | exact int_eq (by rw [IntKind.wrap_i64]; omega) | exact congrArg Value.bool (decide_eq_false (by omega)) | exact congrArg Value.bool (decide_eq_true (by omega))) (hJ.st) hord)
       ·rw [if_pos (by rfl)]
        intro K hK
        have dd102 := hdep ⟨4, .data⟩ (by simp) rfl
        have q102 := dd102.2 _ rfl _ rfl
        have h102 := hJ.vals 4 dd102.1
        rw [hT] at h102
        rw [show f 4 = .bool true from h102] at q102
        clear h102 dd102
        have dd111 := hdep ⟨13, .data⟩ (by simp) rfl
        have q111 := dd111.2 _ rfl _ rfl
        have h111 := hJ.vals 13 dd111.1
        rw [hT] at h111
        rw [show f 13 = .bool false from h111] at q111
        clear h111 dd111
        have hord := no_ord 14 listed
        rw [Array.getD_eq_getD_getElem?] at q102
        rw [Array.getD_eq_getD_getElem?] at q111
        clear hsz hdep hout hlat
        go_simp
        exact hK _ _ (hJ.next (by rw [hls]; decide) (by rw [hT]; first | rfl | exact int_eq (by omega) | exact int_eq (by rw [IntKind.wrap_i64]; omega) | exact congrArg Value.bool (decide_eq_false (by omega)) | exact congrArg Value.bool (decide_eq_true (by omega))) (hJ.st) hord)
      ·intro listed f wy hall hJ
       have f14 : f 14 = .bool false := by
        have h := hJ.vals 14 (hall 14 (by simp))
        rw [hT] at h; exact h
       have hst := hJ.st
       simp only [putAll, Act.put, List.setIfInBounds_toArray, List.set_cons_zero, List.set_cons_succ, Nat.zero_add, Nat.reduceAdd]
       have xx : Ex wa wy := hst
       replace HIM := Lib.hid (HIM.out.ext xx)
       replace M1 := Lib.hid (M1.out.ext xx)
       replace M2 := Lib.hid (M2.out.ext xx)
       replace Q1 := Lib.hid (Q1.out.ext xx)
       replace R1 := Lib.hid (R1.out.ext xx)
       replace BW := Lib.hid (Ex.trans BW.out xx)
       rw [f14]
       clear f14
       clear hJ hall hT
       generalize f 0 = y0
       generalize f 1 = y1
       generalize f 2 = y2
       generalize f 3 = y3
       generalize f 4 = y4
       generalize f 5 = y5
       generalize f 6 = y6
       generalize f 7 = y7
       generalize f 8 = y8
       generalize f 9 = y9
       generalize f 10 = y10
       generalize f 11 = y11
       generalize f 12 = y12
       generalize f 13 = y13
       clear xx hst hS0
       go_wp2_with (first | ((with_reducible refine stop_big ?_ ?_); (focus rfl)) | (with_reducible refine stop_build ?_) | ((with_reducible refine stop_beq ?_ ?_); (focus rfl)) | (with_reducible refine stop_load (t := 76) ?_) | (with_reducible refine stop_mu ?_) | (with_reducible refine stop_lk ?_) | (with_reducible refine stop_store (t := 3) ?_))
       go_roundw
       case rel => exact ⟨k + 1, r2, v2, _, _, by omega, by omega, by go_num, HIM, HV, HH, HL2, M1, M2, BW⟩
       case measure => simp [intOf]; omega
     have RS : Hid (y.sec.l.length = 0) := Lib.hid (by omega)
     clear hsl
     have hS0 : ∀ (listed : Array Bool) (f : Nat → Value), (∀ i, listed.getD i false = false) → Ex wa wa.drew := fun _ _ _ => (Below.refl wa.heap.size wa).drew
     obtain ⟨T, hT⟩ : ∃ T : List (Value → Prop), T = [(fun x => x = .pointer (some ⟨h8, 7, none⟩)), (fun x => x = .slice y.sec.ad (0 : Nat) y.sec.cap), (fun x => x = .int .i64 0), (fun x => x = .bool false), (fun x => x = .bool false), (fun x => x = undef), (fun x => x = undef), (fun x => x = undef), (fun x => x = undef), (fun x => x = undef), (fun x => x = undef), (fun x => x = undef), (fun x => x = undef), (fun x => x = undef), (fun x => x = .bool false)] := ⟨_, rfl⟩
     refine wp_region_gen (JS T ([] : List (Nat × Nat)) (fun _ _ w => Ex wa w)) (by kernel_rfl) (by kernel_rfl) (by kernel_rfl) (fitB_spec (by kernel_rfl)) (fun listed f h => JS.start listed f h (hS0 listed f h)) ?_ ?_
     ·intro i o ho
      have hi : i < 15 := (Array.getElem?_eq_some_iff.1 ho).1
      have hi' : i = 0 ∨ i = 1 ∨ i = 2 ∨ i = 3 ∨ i = 4 ∨ i = 5 ∨ i = 6 ∨ i = 7 ∨ i = 8 ∨ i = 9 ∨ i = 10 ∨ i = 11 ∨ i = 12 ∨ i = 13 ∨ i = 14 := by omega
      clear hi
      rcases hi' with rfl | rfl | rfl | rfl | rfl | rfl | rfl | rfl | rfl | rfl | rfl | rfl | rfl | rfl | rfl
      all_goals (simp only [List.getElem?_toArray, List.getElem?_cons_zero, List.getElem?_cons_succ, Option.some.injEq] at ho; subst ho; intro listed f a wy hJ hsz hls hun hdep hout hlat)
      ·rw [if_pos (by rfl)]
       intro K hK
       have q8 := hout 8 (outB_spec (by kernel_rfl))
       have hord := no_ord 0 listed
       rw [Array.getD_eq_getD_getElem?] at q8
       clear hsz hdep hout hlat
       go_simp
       exact hK _ _ (hJ.next (by rw [hls]; decide) (by rw [hT]; first | rfl | exact int_eq (by omega) | exact int_eq (by rw [IntKind.wrap_i64]; omega) | exact congrArg Value.bool (decide_eq_false (by omega)) | exact congrArg Value.bool (decide_eq_true (by omega))) (hJ.st) hord)
      ·rw [if_pos (by rfl)]
       intro K hK
       have dd98 := hdep ⟨0, .data⟩ (by simp) rfl
       have q98 := dd98.2 _ rfl _ rfl
       have h98 := hJ.vals 0 dd98.1
       rw [hT] at h98
       rw [show f 0 = .pointer (some ⟨h8, 7, none⟩) from h98] at q98
       clear h98 dd98
       have hord := no_ord 1 listed
       have cc := (RB.cells (R1.out.ext hJ.st))
       obtain ⟨_, _, r6, r7, _, _⟩ := cc
       unfold Pt.V at r7
       rw [show y.sec.l.length = 0 from RS.out] at r7
       rw [Array.getD_eq_getD_getElem?] at q98
       clear hsz hdep hout hlat
       go_simp
       exact hK _ _ (hJ.next (by rw [hls]; decide) (by rw [hT]; first | rfl | exact int_eq (by omega) | exact int_eq (by rw [IntKind.wrap_i64]; omega)) (hJ.st) hord)
      ·rw [if_pos (by rfl)]
       intro K hK
       have dd99 := hdep ⟨1, .data⟩ (by simp) rfl
       have q99 := dd99.2 _ rfl _ rfl
       have h99 := hJ.vals 1 dd99.1
       rw [hT] at h99
       rw [show f 1 = .slice y.sec.ad (0 : Nat) y.sec.cap from h99] at q99
       clear h99 dd99
       have hord := no_ord 2 listed
       rw [Array.getD_eq_getD_getElem?] at q99
       clear hsz hdep hout hlat
       go_simp
       exact hK _ _ (hJ.next (by rw [hls]; decide) (by rw [hT]; first | rfl | exact int_eq (by omega) | exact int_eq (by rw [IntKind.wrap_i64]; omega) | exact congrArg Value.bool (decide_eq_false (by omega)) | exact congrArg Value.bool (decide_eq_true (by omega))) (hJ.st) hord)
      ·rw [if_pos (by rfl)]
       intro K hK
       have dd100 := hdep ⟨2, .data⟩ (by simp) rfl
       have q100 := dd100.2 _ rfl _ rfl
       have h100 := hJ.vals 2 dd100.1
       rw [hT] at h100
       rw [show f 2 = .int .i64 0 from h100] at q100
       clear h100 dd100
       have hord := no_ord 3 listed
       rw [Array.getD_eq_getD_getElem?] at q100
       clear hsz hdep hout hlat
       go_simp
       exact hK _ _ (hJ.next (by rw [hls]; decide) (by rw [hT]; first | rfl | exact int_eq (by omega) | exact int_eq (by rw [IntKind.wrap_i64]; omega) | exact congrArg Value.bool (decide_eq_false (by omega)) | exact congrArg Value.bool (decide_eq_true (by omega))) (hJ.st) hord)
      ·rw [if_pos (by rfl)]
       intro K hK
       have dd101 := hdep ⟨3, .data⟩ (by simp) rfl
       have q101 := dd101.2 _ rfl _ rfl
       have h101 := hJ.vals 3 dd101.1
       rw [hT] at h101
       rw [show f 3 = .bool false from h101] at q101
       clear h101 dd101
       have hord := no_ord 4 listed
       refine wp_mv _ rfl (hK _ _ ?_)
       rw [show a.eval (.tmp 101) = .bool false from q101]
       exact hJ.next (by rw [hls]; decide) (by rw [hT]; rfl) (hJ.st) hord
      ·have ddg := hdep ⟨4, .guard⟩ (by simp) rfl
       have kg := ddg.2 _ rfl _ rfl
       have hg := hJ.vals 4 ddg.1
       rw [hT] at hg
       rw [show f 4 = .bool false from hg] at kg
       clear hg ddg
       have hord := no_ord 5 listed
       rw [if_neg (not_wanted rfl rfl rfl kg (by decide))]
       exact hJ.next (by rw [hls]; decide) (by rw [hT]; first | exact trivial | rfl) (hJ.st) hord
      ·have ddg := hdep ⟨4, .guard⟩ (by simp) rfl
       have kg := ddg.2 _ rfl _ rfl
       have hg := hJ.vals 4 ddg.1
       rw [hT] at hg
       rw [show f 4 = .bool false from hg] at kg
       clear hg ddg
       have hord := no_ord 6 listed
       rw [if_neg (not_wanted rfl rfl rfl kg (by decide))]
       exact hJ.next (by rw [hls]; decide) (by rw [hT]; first | exact trivial | rfl) (hJ.st) hord
      ·have ddg := hdep ⟨4, .guard⟩ (by simp) rfl
       have kg := ddg.2 _ rfl _ rfl
       have hg := hJ.vals 4 ddg.1
       rw [hT] at hg
       rw [show f 4 = .bool false from hg] at kg
       clear hg ddg
       have hord := no_ord 7 listed
       rw [if_neg (not_wanted rfl rfl rfl kg (by decide))]
       exact hJ.next (by rw [hls]; decide) (by rw [hT]; first | exact trivial | rfl) (hJ.st) hord
      ·have ddg := hdep ⟨4, .guard⟩ (by simp) rfl
       have kg := ddg.2 _ rfl _ rfl
       have hg := hJ.vals 4 ddg.1
       rw [hT] at hg
       rw [show f 4 = .bool false from hg] at kg
       clear hg ddg
       have hord := no_ord 8 listed
       rw [if_neg (not_wanted rfl rfl rfl kg (by decide))]
       exact hJ.next (by rw [hls]; decide) (by rw [hT]; first | exact trivial | rfl) (hJ.st) hord
      ·have ddg := hdep ⟨4, .guard⟩ (by simp) rfl
       have kg := ddg.2 _ rfl _ rfl
       have hg := hJ.vals 4 ddg.1
       rw [hT] at hg
       rw [show f 4 = .bool false from hg] at kg
       clear hg ddg
       have hord := no_ord 9 listed
       rw [if_neg (not_wanted rfl rfl rfl kg (by decide))]
       exact hJ.next (by rw [hls]; decide) (by rw [hT]; first | exact trivial | rfl) (hJ.st) hord
      ·have ddg := hdep ⟨4, .guard⟩ (by simp) rfl
       have kg := ddg.2 _ rfl _ rfl
       have hg := hJ.vals 4 ddg.1
       rw [hT] at hg
       rw [show f 4 = .bool false from hg] at kg
       clear hg ddg
       have hord := no_ord 10 listed
       rw [if_neg (not_wanted rfl rfl rfl kg (by decide))]
       exact hJ.next (by rw [hls]; decide) (by rw [hT]; first | exact trivial | rfl) (hJ.st) hord
      ·have ddg := hdep ⟨4, .guard⟩ (by simp) rfl
       have kg := ddg.2 _ rfl _ rfl
       have hg := hJ.vals 4 ddg.1
       rw [hT] at hg
       rw [show f 4 = .bool false from hg] at kg
       clear hg ddg
       have hord := no_ord 11 listed
       rw [if_neg (not_wanted rfl rfl rfl kg (by decide))]
       exact hJ.next (by rw [hls]; decide) (by rw [hT]; first | exact trivial | rfl) (hJ.st) hord
      ·have ddg := hdep ⟨4, .guard⟩ (by simp) rfl
       have kg := ddg.2 _ rfl _ rfl
       have hg := hJ.vals 4 ddg.1
       rw [hT] at hg
       rw [show f 4 = .bool false from hg] at kg
       clear hg ddg
       have hord := no_ord 12 listed
       rw [if_neg (not_wanted rfl rfl rfl kg (by decide))]
       exact hJ.next (by rw [hls]; decide) (by rw [hT]; first | exact trivial | rfl) (hJ.st) hord
      ·have ddg := hdep ⟨4, .guard⟩ (by simp) rfl
       have kg := ddg.2 _ rfl _ rfl
       have hg := hJ.vals 4 ddg.1
       rw [hT] at hg
       rw [show f 4 = .bool false from hg] at kg
       clear hg ddg
       have hord := no_ord 13 listed
       rw [if_neg (not_wanted rfl rfl rfl kg (by decide))]
       exact hJ.next (by rw [hls]; decide) (by rw [hT]; first | exact trivial | rfl) (hJ.st) hord
      ·rw [if_pos (by rfl)]
       intro K hK
       have dd102 := hdep ⟨4, .data⟩ (by simp) rfl
       have q102 := dd102.2 _ rfl _ rfl
       have h102 := hJ.vals 4 dd102.1
       rw [hT] at h102
       rw [show f 4 = .bool false from h102] at q102
       clear h102 dd102
       have dd111 := hdep ⟨13, .data⟩ (by simp) rfl
       have q111 := dd111.2 _ rfl _ rfl
       have h111 := hJ.vals 13 dd111.1
       rw [hT] at h111
       rw [show f 13 = undef from h111] at q111
       clear h111 dd111
       have hord := no_ord 14 listed
       rw [Array.getD_eq_getD_getElem?] at q102
       rw [Array.getD_eq_getD_getElem?] at q111
       clear hsz hdep hout hlat
       go_simp
       exact hK _ _ (hJ.next (by rw [hls]; decide) (by rw [hT]; first | rfl | exact int_eq (by omega) | exact int_eq (by rw [IntKind.wrap_i64]; omega) | exact congrArg Value.bool (decide_eq_false (by omega)) | exact congrArg Value.bool (decide_eq_true (by omega))) (hJ.st) hord)
     ·intro listed f wy hall hJ
      have f14 : f 14 = .bool false := by
       have h := hJ.vals 14 (hall 14 (by simp))
       rw [hT] at h; exact h
      have hst := hJ.st
      simp only [putAll, Act.put, List.setIfInBounds_toArray, List.set_cons_zero, List.set_cons_succ, Nat.zero_add, Nat.reduceAdd]
      have xx : Ex wa wy := hst
      replace HIM := Lib.hid (HIM.out.ext xx)
      replace M1 := Lib.hid (M1.out.ext xx)
      replace M2 := Lib.hid (M2.out.ext xx)
      replace Q1 := Lib.hid (Q1.out.ext xx)
      replace R1 := Lib.hid (R1.out.ext xx)
      replace BW := Lib.hid (Ex.trans BW.out xx)
      rw [f14]
      clear f14
      clear hJ hall hT
      generalize f 0 = y0
      generalize f 1 = y1
      generalize f 2 = y2
      generalize f 3 = y3
      generalize f 4 = y4
      generalize f 5 = y5
      generalize f 6 = y6
      generalize f 7 = y7
      generalize f 8 = y8
      generalize f 9 = y9
      generalize f 10 = y10
      generalize f 11 = y11
      generalize f 12 = y12
      generalize f 13 = y13
      clear xx hst hS0
      go_wp2_with (first | ((with_reducible refine stop_big ?_ ?_); (focus rfl)) | (with_reducible refine stop_build ?_) | ((with_reducible refine stop_beq ?_ ?_); (focus rfl)) | (with_reducible refine stop_load (t := 76) ?_) | (with_reducible refine stop_mu ?_) | (with_reducible refine stop_lk ?_) | (with_reducible refine stop_store (t := 3) ?_))
      go_roundw
      case rel => exact ⟨k + 1, r2, v2, _, _, by omega, by omega, by go_num, HIM, HV, HH, HL2, M1, M2, BW⟩
      case measure => simp [intOf]; omega
    | wrong ho hw hsec u l3 hleft hu hl3 u0 ul l1 =>
     have RS : Hid (y.sec.l.length = 0) := Lib.hid (by rw [← hyc] at hsec; rw [show y.sec.l = [] from hsec]; rfl)
     have RW : Hid (y.why = 23) := Lib.hid (by rw [← hyc] at hw; exact hw)
     have RL : Hid (y.left = l3 - (u + 1)) := Lib.hid (by rw [← hyc] at hleft; exact hleft)
     subst hqc
     have HO : Hid (q7.op = 2) := Lib.hid ho
     have HFW : Hid (fw q7.id = u) := Lib.hid hu
     have HFL : Hid (fl q7.id = l3) := Lib.hid hl3
     clear hyc ho hw hu hl3 hleft hsec
     obtain ⟨q0c, q21, q22, q55, q56⟩ := Q1.out.cells
     obtain ⟨r0, r5, r6, r7, r8, r9⟩ := R1.out.cells
     unfold Pt.V at r7
     clear q21 q55 q56 r5 r8 r9
     rw [show y.why = 23 from RW.out] at r0
     rw [show q7.op = 2 from HO.out] at q0c
     rw [show y.sec.l.length = 0 from RS.out] at r7
     go_wp2_with (first | ((with_reducible refine stop_big ?_ ?_); (focus rfl)) | (with_reducible refine stop_build ?_) | ((with_reducible refine stop_beq ?_ ?_); (focus rfl)) | (with_reducible refine stop_load (t := 76) ?_) | (with_reducible refine stop_mu ?_) | (with_reducible refine stop_lk ?_) | (with_reducible refine stop_store (t := 3) ?_))
     (first | ((with_reducible refine ⟨?_⟩); (with_reducible refine at_not ?_ ?_); (focus (go_simp; done)); go_wp2_with (first | ((with_reducible refine stop_big ?_ ?_); (focus rfl)) | (with_reducible refine stop_build ?_) | ((with_reducible refine stop_beq ?_ ?_); (focus rfl)) | (with_reducible refine stop_load (t := 76) ?_) | (with_reducible refine stop_mu ?_) | (with_reducible refine stop_lk ?_) | (with_reducible refine stop_store (t := 3) ?_))) | skip)
     (first | ((with_reducible refine ⟨?_⟩); (with_reducible refine at_not ?_ ?_); (focus (go_simp; done)); go_wp2_with (first | ((with_reducible refine stop_big ?_ ?_); (focus rfl)) | (with_reducible refine stop_build ?_) | ((with_reducible refine stop_beq ?_ ?_); (focus rfl)) | (with_reducible refine stop_load (t := 76) ?_) | (with_reducible refine stop_mu ?_) | (with_reducible refine stop_lk ?_) | (with_reducible refine stop_store (t := 3) ?_))) | skip)
     clear q0c q22 r0 r6 r7
     have hS0 : ∀ (listed : Array Bool) (f : Nat → Value), (∀ i, listed.getD i false = false) → E15 wa (m + 1) fw q7.id (u + 1) listed f wa.drew := fun listed f h0 => ⟨Ex.md (Below.refl wa.heap.size wa).drew (Nat.le_of_lt M2.out.lt), fun _ => M2.out.ext (Below.refl wa.heap.size wa).drew, (fun e => by rw [h0 7] at e; cases e), fun _ e => by rw [h0 5] at e; cases e⟩
     obtain ⟨T, hT⟩ : ∃ T : List (Value → Prop), T = [(fun x => x = .map (some (m + 1))), (fun x => x = .pointer (some ⟨g, 1, none⟩)), (fun x => x = digV q7.id), (fun x => x = .int .i64 u), (fun x => x = .int .i64 (u + 1)), (fun _ => True), (fun _ => True), (fun _ => True)] := ⟨_, rfl⟩
     refine wp_region_gen (JS T ([(7, 4), (4, 3), (7, 5), (6, 5), (7, 6)] : List (Nat × Nat)) (E15 wa (m + 1) fw q7.id (u + 1))) (by kernel_rfl) (by kernel_rfl) (by kernel_rfl) (fitB_spec (by kernel_rfl)) (fun listed f h => JS.start listed f h (hS0 listed f h)) ?_ ?_
     ·intro i o ho
      have hi : i < 8 := (Array.getElem?_eq_some_iff.1 ho).1
      have hi' : i = 0 ∨ i = 1 ∨ i = 2 ∨ i = 3 ∨ i = 4 ∨ i = 5 ∨ i = 6 ∨ i = 7 := by omega
      clear hi
      rcases hi' with rfl | rfl | rfl | rfl | rfl | rfl | rfl | rfl
      all_goals (simp only [List.getElem?_toArray, List.getElem?_cons_zero, List.getElem?_cons_succ, Option.some.injEq] at ho; subst ho; intro listed f a wz hJ hsz hls hun hdep hout hlat)
      ·rw [if_pos (by rfl)]
       intro K hK
       have q5 := hout 5 (outB_spec (by kernel_rfl))
       have hord : ∀ x ∈ ([(7, 4), (4, 3), (7, 5), (6, 5), (7, 6)] : List (Nat × Nat)), x.1 = 0 → listed.getD x.2 false = true := (by intro x hx he; simp only [List.mem_cons, List.not_mem_nil, or_false] at hx; rcases hx with rfl | rfl | rfl | rfl | rfl; all_goals first | (exact absurd he (by decide)) | assumption)
       refine wp_mv _ rfl (hK _ _ ?_)
       rw [show a.eval (.tmp 5) = .map (some (m + 1)) from q5]
       exact hJ.next (by rw [hls]; decide) (by rw [hT]; rfl) (E15.plain hJ.st 0 (by decide) rfl) hord
      ·rw [if_pos (by rfl)]
       intro K hK
       have q7 := hout 7 (outB_spec (by kernel_rfl))
       have hord : ∀ x ∈ ([(7, 4), (4, 3), (7, 5), (6, 5), (7, 6)] : List (Nat × Nat)), x.1 = 1 → listed.getD x.2 false = true := (by intro x hx he; simp only [List.mem_cons, List.not_mem_nil, or_false] at hx; rcases hx with rfl | rfl | rfl | rfl | rfl; all_goals first | (exact absurd he (by decide)) | assumption)
       rw [Array.getD_eq_getD_getElem?] at q7
       clear hsz hdep hout hlat
       go_simp
       exact hK _ _ (hJ.next (by rw [hls]; decide) (by rw [hT]; first | rfl | exact int_eq (by omega) | exact int_eq (by rw [IntKind.wrap_i64]; omega) | exact congrArg Value.bool (decide_eq_false (by omega)) | exact congrArg Value.bool (decide_eq_true (by omega))) (E15.plain hJ.st 1 (by decide) rfl) hord)
      ·rw [if_pos (by rfl)]
       intro K hK
       have dd69 := hdep ⟨1, .data⟩ (by simp) rfl
       have q69 := dd69.2 _ rfl _ rfl
       have h69 := hJ.vals 1 dd69.1
       rw [hT] at h69
       rw [show f 1 = .pointer (some ⟨g, 1, none⟩) from h69] at q69
       clear h69 dd69
       have hord : ∀ x ∈ ([(7, 4), (4, 3), (7, 5), (6, 5), (7, 6)] : List (Nat × Nat)), x.1 = 2 → listed.getD x.2 false = true := (by intro x hx he; simp only [List.mem_cons, List.not_mem_nil, or_false] at hx; rcases hx with rfl | rfl | rfl | rfl | rfl; all_goals first | (exact absurd he (by decide)) | assumption)
       exact ld_qid _ g q7 rfl q69 (QB.kts0 Q1.out (M2.out.kt (E15.md hJ.st))) (hK _ _ (hJ.next (by rw [hls]; decide) (by rw [hT]; rfl) (E15.plain hJ.st 2 (by decide) rfl) hord))
      ·rw [if_pos (by rfl)]
       intro K hK
       have dd68 := hdep ⟨0, .data⟩ (by simp) rfl
       have q68 := dd68.2 _ rfl _ rfl
       have h68 := hJ.vals 0 dd68.1
       rw [hT] at h68
       rw [show f 0 = .map (some (m + 1)) from h68] at q68
       clear h68 dd68
       have dd70 := hdep ⟨2, .data⟩ (by simp) rfl
       have q70 := dd70.2 _ rfl _ rfl
       have h70 := hJ.vals 2 dd70.1
       rw [hT] at h70
       rw [show f 2 = digV q7.id from h70] at q70
       clear h70 dd70
       have hord : ∀ x ∈ ([(7, 4), (4, 3), (7, 5), (6, 5), (7, 6)] : List (Nat × Nat)), x.1 = 3 → listed.getD x.2 false = true := (by intro x hx he; simp only [List.mem_cons, List.not_mem_nil, or_false] at hx; rcases hx with rfl | rfl | rfl | rfl | rfl; all_goals first | (exact absurd he (by decide)) | assumption)
       have hl7 : listed.getD 7 false = false := by
        cases hc : listed.getD 7 false with
        | false => rfl
        | true =>
         have hc1 := hJ.ord (7, 4) (by simp) hc
         have hc2 := hJ.ord (4, 3) (by simp) hc1
         exact absurd hc2 (by rw [hun]; decide)
       exact wp_mlk _ _ rfl (m + 1) fw (E15.mi hJ.st hl7) q7.id HLI.out q68 q70 (hK _ _ (hJ.next (by rw [hls]; decide) (by rw [hT]; exact congrArg (Value.int .i64) HFW.out) (E15.plain hJ.st 3 (by decide) rfl) hord))
      ·rw [if_pos (by rfl)]
       intro K hK
       have dd71 := hdep ⟨3, .data⟩ (by simp) rfl
       have q71 := dd71.2 _ rfl _ rfl
       have h71 := hJ.vals 3 dd71.1
       rw [hT] at h71
       rw [show f 3 = .int .i64 u from h71] at q71
       clear h71 dd71
       have hl3 := (hdep ⟨3, .data⟩ (by simp) rfl).1
       have hord : ∀ x ∈ ([(7, 4), (4, 3), (7, 5), (6, 5), (7, 6)] : List (Nat × Nat)), x.1 = 4 → listed.getD x.2 false = true := (by intro x hx he; simp only [List.mem_cons, List.not_mem_nil, or_false] at hx; rcases hx with rfl | rfl | rfl | rfl | rfl; all_goals first | (exact absurd he (by decide)) | assumption)
       rw [Array.getD_eq_getD_getElem?] at q71
       clear hsz hdep hout hlat
       go_simp
       exact hK _ _ (hJ.next (by rw [hls]; decide) (by rw [hT]; first | rfl | exact int_eq (by omega) | exact int_eq (by rw [IntKind.wrap_i64]; omega) | exact congrArg Value.bool (decide_eq_false (by omega)) | exact congrArg Value.bool (decide_eq_true (by omega))) (E15.plain hJ.st 4 (by decide) rfl) hord)
      ·rw [if_pos (by rfl)]
       intro K hK
       have dd68 := hdep ⟨0, .data⟩ (by simp) rfl
       have q68 := dd68.2 _ rfl _ rfl
       have h68 := hJ.vals 0 dd68.1
       rw [hT] at h68
       rw [show f 0 = .map (some (m + 1)) from h68] at q68
       clear h68 dd68
       have dd70 := hdep ⟨2, .data⟩ (by simp) rfl
       have q70 := dd70.2 _ rfl _ rfl
       have h70 := hJ.vals 2 dd70.1
       rw [hT] at h70
       rw [show f 2 = digV q7.id from h70] at q70
       clear h70 dd70
       have hord : ∀ x ∈ ([(7, 4), (4, 3), (7, 5), (6, 5), (7, 6)] : List (Nat × Nat)), x.1 = 5 → listed.getD x.2 false = true := (by intro x hx he; simp only [List.mem_cons, List.not_mem_nil, or_false] at hx; rcases hx with rfl | rfl | rfl | rfl | rfl; all_goals first | (exact absurd he (by decide)) | assumption)
       have hl7 : listed.getD 7 false = false := by
        cases hc : listed.getD 7 false with
        | false => rfl
        | true => exact absurd (hJ.ord (7, 5) (by simp) hc) (by rw [hun]; decide)
       have hl6 : listed.getD 6 false = false := by
        cases hc : listed.getD 6 false with
        | false => rfl
        | true => exact absurd (hJ.ord (6, 5) (by simp) hc) (by rw [hun]; decide)
       exact wp_men _ _ rfl (m + 1) fw (E15.mi hJ.st hl7) q7.id HLI.out q68 q70 (fun wy st hms ho => hK _ _ (hJ.next (by rw [hls]; decide) (by rw [hT]; trivial) (E15.s5 hJ.st (by rw [hls]; decide) hl7 hl6 hms ho) hord))
      ·rw [if_pos (by rfl)]
       intro K hK
       have dd73 := hdep ⟨5, .data⟩ (by simp) rfl
       have q73 := dd73.2 _ rfl _ rfl
       have hl5 := (hdep ⟨5, .data⟩ (by simp) rfl).1
       have hord : ∀ x ∈ ([(7, 4), (4, 3), (7, 5), (6, 5), (7, 6)] : List (Nat × Nat)), x.1 = 6 → listed.getD x.2 false = true := (by intro x hx he; simp only [List.mem_cons, List.not_mem_nil, or_false] at hx; rcases hx with rfl | rfl | rfl | rfl | rfl; all_goals first | (exact absurd he (by decide)) | assumption)
       have hl7 : listed.getD 7 false = false := by
        cases hc : listed.getD 7 false with
        | false => rfl
        | true => exact absurd (hJ.ord (7, 6) (by simp) hc) (by rw [hun]; decide)
       have hl5 := (hdep ⟨5, .data⟩ (by simp) rfl).1
       obtain ⟨st, v0, e5, hms, _⟩ := E15.st hJ.st hl7 hl5
       rw [e5] at q73
       rw [Array.getD_eq_getD_getElem?] at q73
       clear hsz hdep hout hlat
       go_simp
       exact hK _ _ (hJ.next (by rw [hls]; decide) (by rw [hT]; trivial) (E15.s6 hJ.st e5) hord)
      ·rw [if_pos (by rfl)]
       intro K hK
       have dd68 := hdep ⟨0, .data⟩ (by simp) rfl
       have q68 := dd68.2 _ rfl _ rfl
       have h68 := hJ.vals 0 dd68.1
       rw [hT] at h68
       rw [show f 0 = .map (some (m + 1)) from h68] at q68
       clear h68 dd68
       have dd74 := hdep ⟨6, .data⟩ (by simp) rfl
       have q74 := dd74.2 _ rfl _ rfl
       have dd72 := hdep ⟨4, .data⟩ (by simp) rfl
       have q72 := dd72.2 _ rfl _ rfl
       have h72 := hJ.vals 4 dd72.1
       rw [hT] at h72
       rw [show f 4 = .int .i64 (u + 1) from h72] at q72
       clear h72 dd72
       have hl4 := (hdep ⟨4, .data⟩ (by simp) rfl).1
       have hl5 := (hdep ⟨5, .chain⟩ (by simp) rfl).1
       have hl6 := (hdep ⟨6, .data⟩ (by simp) rfl).1
       have hord : ∀ x ∈ ([(7, 4), (4, 3), (7, 5), (6, 5), (7, 6)] : List (Nat × Nat)), x.1 = 7 → listed.getD x.2 false = true := (by intro x hx he; simp only [List.mem_cons, List.not_mem_nil, or_false] at hx; rcases hx with rfl | rfl | rfl | rfl | rfl; all_goals first | (exact absurd he (by decide)) | assumption)
       have hl5 := (hdep ⟨5, .chain⟩ (by simp) rfl).1
       have hl6 := (hdep ⟨6, .data⟩ (by simp) rfl).1
       obtain ⟨st, v0, e5, hms, h6⟩ := E15.st hJ.st hun hl5
       rw [h6 hl6] at q74
       exact wp_mes _ _ _ rfl (m + 1) st fw q7.id (u + 1) hms HLI.out q68 q74 q72 (fun wy hm ho => hK _ _ (hJ.next (by rw [hls]; decide) (by rw [hT]; trivial) (E15.s7 hJ.st (by rw [hls]; decide) hm ho) hord))
     ·intro listed f wz hall hJ
      have hst := hJ.st
      simp only [putAll, Act.put, List.setIfInBounds_toArray, List.set_cons_zero, List.set_cons_succ, Nat.zero_add, Nat.reduceAdd]
      have hfin := E15.fin hst (hall 7 (by simp))
      have hmd := E15.md hst
      have kt := M2.out.kt hmd
      replace BW := Lib.hid (hmd.below w.heap.size (by omega) w BW.out)
      replace HIM := Lib.hid (HIM.out.kts0 kt)
      replace Q1 := Lib.hid (Q1.out.kts0 kt)
      replace R1 := Lib.hid (R1.out.kts0 kt)
      replace M1 := Lib.hid (hmd.mi M1.out (by omega))
      replace M2 := Lib.hid hfin
      clear kt hmd hfin
      clear hJ hall hT
      generalize f 0 = y0
      generalize f 1 = y1
      generalize f 2 = y2
      generalize f 3 = y3
      generalize f 4 = y4
      generalize f 5 = y5
      generalize f 6 = y6
      clear hst hS0
      obtain ⟨fw2, hfw2⟩ : ∃ f : List UInt8 → Int, f = updK fw q7.id (u + 1) := ⟨_, rfl⟩
      have HF2 : Hid (updK fw q7.id (u + 1) = fw2) := Lib.hid hfw2.symm
      rw [← hfw2] at M2
      replace HFW : Hid (fw2 q7.id = u + 1) := Lib.hid (by rw [hfw2]; exact updK_same _ _ _)
      clear hfw2
      go_wp2_with (first | ((with_reducible refine stop_big ?_ ?_); (focus rfl)) | (with_reducible refine stop_build ?_) | ((with_reducible refine stop_beq ?_ ?_); (focus rfl)) | (with_reducible refine stop_load (t := 76) ?_) | (with_reducible refine stop_mu ?_) | (with_reducible refine stop_lk ?_) | (with_reducible refine stop_store (t := 3) ?_))
      have hS0 : ∀ (listed : Array Bool) (f : Nat → Value), (∀ i, listed.getD i false = false) → Ex wz wz.drew := fun _ _ _ => (Below.refl wz.heap.size wz).drew
      obtain ⟨T, hT⟩ : ∃ T : List (Value → Prop), T = [(fun x => x = .map (some (m + 1))), (fun x => x = .pointer (some ⟨g, 1, none⟩)), (fun x => x = digV q7.id), (fun x => x = .int .i64 (u + 1)), (fun x => x = .map (some m)), (fun x => x = .pointer (some ⟨g, 1, none⟩)), (fun x => x = digV q7.id), (fun x => x = .int .i64 l3), (fun x => x = .bool false), (fun x => x = .bool false), (fun x => x = .pointer (some ⟨h8, 6, none⟩)), (fun x => x = .int .i64 (l3 - (u + 1))), (fun x => x = .map (some m)), (fun x => x = .pointer (some ⟨g, 1, none⟩)), (fun x => x = digV q7.id), (fun x => x = .int .i64 l3), (fun x => x = .map (some (m + 1))), (fun x => x = .pointer (some ⟨g, 1, none⟩)), (fun x => x = digV q7.id), (fun x => x = .int .i64 (u + 1)), (fun x => x = .int .i64 (l3 - (u + 1))), (fun x => x = .bool false), (fun x => x = .bool false)] := ⟨_, rfl⟩
      refine wp_region_gen (JS T ([] : List (Nat × Nat)) (fun _ _ w => Ex wz w)) (by kernel_rfl) (by kernel_rfl) (by kernel_rfl) (fitB_spec (by kernel_rfl)) (fun listed f h => JS.start listed f h (hS0 listed f h)) ?_ ?_
      ·intro i o ho
       have hi : i < 23 := (Array.getElem?_eq_some_iff.1 ho).1
       have hi' : i = 0 ∨ i = 1 ∨ i = 2 ∨ i = 3 ∨ i = 4 ∨ i = 5 ∨ i = 6 ∨ i = 7 ∨ i = 8 ∨ i = 9 ∨ i = 10 ∨ i = 11 ∨ i = 12 ∨ i = 13 ∨ i = 14 ∨ i = 15 ∨ i = 16 ∨ i = 17 ∨ i = 18 ∨ i = 19 ∨ i = 20 ∨ i = 21 ∨ i = 22 := by omega
       clear hi
       rcases hi' with rfl | rfl | rfl | rfl | rfl | rfl | rfl | rfl | rfl | rfl | rfl | rfl | rfl | rfl | rfl | rfl | rfl | rfl | rfl | rfl | rfl | rfl | rfl
       all_goals (simp only [List.getElem?_toArray, List.getElem?_cons_zero, List.getElem?_cons_succ, Option.some.injEq] at ho; subst ho; intro listed f a wz2 hJ hsz hls hun hdep hout hlat)
       ·rw [if_pos (by rfl)]
        intro K hK
        have q5 := hout 5 (outB_spec (by kernel_rfl))
        have hord := no_ord 0 listed
        refine wp_mv _ rfl (hK _ _ ?_)
        rw [show a.eval (.tmp 5) = .map (some (m + 1)) from q5]
        exact hJ.next (by rw [hls]; decide) (by rw [hT]; rfl) (hJ.st) hord
       ·rw [if_pos (by rfl)]
        intro K hK
        have q7 := hout 7 (outB_spec (by kernel_rfl))
        have hord := no_ord 1 listed
        rw [Array.getD_eq_getD_getElem?] at q7
        clear hsz hdep hout hlat
        go_simp
        exact hK _ _ (hJ.next (by rw [hls]; decide) (by rw [hT]; first | rfl | exact int_eq (by omega) | exact int_eq (by rw [IntKind.wrap_i64]; omega) | exact congrArg Value.bool (decide_eq_false (by omega)) | exact congrArg Value.bool (decide_eq_true (by omega))) (hJ.st) hord)
       ·rw [if_pos (by rfl)]
        intro K hK
        have dd76 := hdep ⟨1, .data⟩ (by simp) rfl
        have q76 := dd76.2 _ rfl _ rfl
        have h76 := hJ.vals 1 dd76.1
        rw [hT] at h76
        rw [show f 1 = .pointer (some ⟨g, 1, none⟩) from h76] at q76
        clear h76 dd76
        have hord := no_ord 2 listed
        exact ld_qid _ g q7 rfl q76 (Q1.out.ext hJ.st) (hK _ _ (hJ.next (by rw [hls]; decide) (by rw [hT]; rfl) (hJ.st) hord))
       ·rw [if_pos (by rfl)]
        intro K hK
        have dd75 := hdep ⟨0, .data⟩ (by simp) rfl
        have q75 := dd75.2 _ rfl _ rfl
        have h75 := hJ.vals 0 dd75.1
        rw [hT] at h75
        rw [show f 0 = .map (some (m + 1)) from h75] at q75
        clear h75 dd75
        have dd77 := hdep ⟨2, .data⟩ (by simp) rfl
        have q77 := dd77.2 _ rfl _ rfl
        have h77 := hJ.vals 2 dd77.1
        rw [hT] at h77
        rw [show f 2 = digV q7.id from h77] at q77
        clear h77 dd77
        have hord := no_ord 3 listed
        exact wp_mlk _ _ rfl (m + 1) fw2 (M2.out.ext hJ.st) q7.id HLI.out q75 q77 (hK _ _ (hJ.next (by rw [hls]; decide) (by rw [hT]; exact congrArg (Value.int .i64) HFW.out) (hJ.st) hord))
       ·rw [if_pos (by rfl)]
        intro K hK
        have q4 := hout 4 (outB_spec (by kernel_rfl))
        have hord := no_ord 4 listed
        refine wp_mv _ rfl (hK _ _ ?_)
        rw [show a.eval (.tmp 4) = .map (some m) from q4]
        exact hJ.next (by rw [hls]; decide) (by rw [hT]; rfl) (hJ.st) hord
       ·rw [if_pos (by rfl)]
        intro K hK
        have q7 := hout 7 (outB_spec (by kernel_rfl))
        have hord := no_ord 5 listed
        rw [Array.getD_eq_getD_getElem?] at q7
        clear hsz hdep hout hlat
        go_simp
        exact hK _ _ (hJ.next (by rw [hls]; decide) (by rw [hT]; first | rfl | exact int_eq (by omega) | exact int_eq (by rw [IntKind.wrap_i64]; omega) | exact congrArg Value.bool (decide_eq_false (by omega)) | exact congrArg Value.bool (decide_eq_true (by omega))) (hJ.st) hord)
       ·rw [if_pos (by rfl)]
        intro K hK
        have dd80 := hdep ⟨5, .data⟩ (by simp) rfl
        have q80 := dd80.2 _ rfl _ rfl
        have h80 := hJ.vals 5 dd80.1
        rw [hT] at h80
        rw [show f 5 = .pointer (some ⟨g, 1, none⟩) from h80] at q80
        clear h80 dd80
        have hord := no_ord 6 listed
        exact ld_qid _ g q7 rfl q80 (Q1.out.ext hJ.st) (hK _ _ (hJ.next (by rw [hls]; decide) (by rw [hT]; rfl) (hJ.st) hord))
       ·rw [if_pos (by rfl)]
        intro K hK
        have dd79 := hdep ⟨4, .data⟩ (by simp) rfl
        have q79 := dd79.2 _ rfl _ rfl
        have h79 := hJ.vals 4 dd79.1
        rw [hT] at h79
        rw [show f 4 = .map (some m) from h79] at q79
        clear h79 dd79
        have dd81 := hdep ⟨6, .data⟩ (by simp) rfl
        have q81 := dd81.2 _ rfl _ rfl
        have h81 := hJ.vals 6 dd81.1
        rw [hT] at h81
        rw [show f 6 = digV q7.id from h81] at q81
        clear h81 dd81
        have hord := no_ord 7 listed
        exact wp_mlk _ _ rfl m fl (M1.out.ext hJ.st) q7.id HLI.out q79 q81 (hK _ _ (hJ.next (by rw [hls]; decide) (by rw [hT]; exact congrArg (Value.int .i64) HFL.out) (hJ.st) hord))
       ·rw [if_pos (by rfl)]
        intro K hK
        have dd78 := hdep ⟨3, .data⟩ (by simp) rfl
        have q78 := dd78.2 _ rfl _ rfl
        have h78 := hJ.vals 3 dd78.1
        rw [hT] at h78
        rw [show f 3 = .int .i64 (u + 1) from h78] at q78
        clear h78 dd78
        have dd82 := hdep ⟨7, .data⟩ (by simp) rfl
        have q82 := dd82.2 _ rfl _ rfl
        have h82 := hJ.vals 7 dd82.1
        rw [hT] at h82
        rw [show f 7 = .int .i64 l3 from h82] at q82
        clear h82 dd82
        have hord := no_ord 8 listed
        rw [Array.getD_eq_getD_getElem?] at q78
        rw [Array.getD_eq_getD_getElem?] at q82
        clear hsz hdep hout hlat
        go_simp
        exact hK _ _ (hJ.next (by rw [hls]; decide) (by rw [hT]; first | rfl | exact int_eq (by omega) | exact int_eq (by rw [IntKind.wrap_i64]; omega) | exact congrArg Value.bool (decide_eq_false (by omega)) | exact congrArg Value.bool (decide_eq_true (by omega))) (hJ.st) hord)
       ·rw [if_pos (by rfl)]
        intro K hK
        have dd83 := hdep ⟨8, .data⟩ (by simp) rfl
        have q83 := dd83.2 _ rfl _ rfl
        have h83 := hJ.vals 8 dd83.1
        rw [hT] at h83
        rw [show f 8 = .bool false from h83] at q83
        clear h83 dd83
        have hord := no_ord 9 listed
        refine wp_mv _ rfl (hK _ _ ?_)
        rw [show a.eval (.tmp 83) = .bool false from q83]
        exact hJ.next (by rw [hls]; decide) (by rw [hT]; rfl) (hJ.st) hord
       ·have ddg := hdep ⟨9, .guard⟩ (by simp) rfl
        have kg := ddg.2 _ rfl _ rfl
        have hg := hJ.vals 9 ddg.1
        rw [hT] at hg
        rw [show f 9 = .bool false from hg] at kg
        clear hg ddg
        rw [if_pos (wanted_of rfl rfl rfl kg)]
        clear kg
        intro K hK
        have q8 := hout 8 (outB_spec (by kernel_rfl))
        have hord := no_ord 10 listed
        rw [Array.getD_eq_getD_getElem?] at q8
        clear hsz hdep hout hlat
        go_simp
        exact hK _ _ (hJ.next (by rw [hls]; decide) (by rw [hT]; first | rfl | exact int_eq (by omega) | exact int_eq (by rw [IntKind.wrap_i64]; omega) | exact congrArg Value.bool (decide_eq_false (by omega)) | exact congrArg Value.bool (decide_eq_true (by omega))) (hJ.st) hord)
       ·have ddg := hdep ⟨9, .guard⟩ (by simp) rfl
        have kg := ddg.2 _ rfl _ rfl
        have hg := hJ.vals 9 ddg.1
        rw [hT] at hg
        rw [show f 9 = .bool false from hg] at kg
        clear hg ddg
        rw [if_pos (wanted_of rfl rfl rfl kg)]
        clear kg
        intro K hK
        have dd85 := hdep ⟨10, .data⟩ (by simp) rfl
        have q85 := dd85.2 _ rfl _ rfl
        have h85 := hJ.vals 10 dd85.1
        rw [hT] at h85
        rw [show f 10 = .pointer (some ⟨h8, 6, none⟩) from h85] at q85
        clear h85 dd85
        have hord := no_ord 11 listed
        have cc := (RB.cells (R1.out.ext hJ.st))
        obtain ⟨_, _, r6, r7, _, _⟩ := cc
        unfold Pt.V at r7
        rw [show y.left = l3 - (u + 1) from RL.out] at r6
        rw [Array.getD_eq_getD_getElem?] at q85
        clear hsz hdep hout hlat
        go_simp
        exact hK _ _ (hJ.next (by rw [hls]; decide) (by rw [hT]; first | rfl | exact int_eq (by omega) | exact int_eq (by rw [IntKind.wrap_i64]; omega)) (hJ.st) hord)
       ·have ddg := hdep ⟨9, .guard⟩ (by simp) rfl
        have kg := ddg.2 _ rfl _ rfl
        have hg := hJ.vals 9 ddg.1
        rw [hT] at hg
        rw [show f 9 = .bool false from hg] at kg
        clear hg ddg
        rw [if_pos (wanted_of rfl rfl rfl kg)]
        clear kg
        intro K hK
        have q4 := hout 4 (outB_spec (by kernel_rfl))
        have hord := no_ord 12 listed
        refine wp_mv _ rfl (hK _ _ ?_)
        rw [show a.eval (.tmp 4) = .map (some m) from q4]
        exact hJ.next (by rw [hls]; decide) (by rw [hT]; rfl) (hJ.st) hord
       ·have ddg := hdep ⟨9, .guard⟩ (by simp) rfl
        have kg := ddg.2 _ rfl _ rfl
        have hg := hJ.vals 9 ddg.1
        rw [hT] at hg
        rw [show f 9 = .bool false from hg] at kg
        clear hg ddg
        rw [if_pos (wanted_of rfl rfl rfl kg)]
        clear kg
        intro K hK
        have q7 := hout 7 (outB_spec (by kernel_rfl))
        have hord := no_ord 13 listed
        rw [Array.getD_eq_getD_getElem?] at q7
        clear hsz hdep hout hlat
        go_simp
        exact hK _ _ (hJ.next (by rw [hls]; decide) (by rw [hT]; first | rfl | exact int_eq (by omega) | exact int_eq (by rw [IntKind.wrap_i64]; omega) | exact congrArg Value.bool (decide_eq_false (by omega)) | exact congrArg Value.bool (decide_eq_true (by omega))) (hJ.st) hord)
       ·have ddg := hdep ⟨9, .guard⟩ (by simp) rfl
        have kg := ddg.2 _ rfl _ rfl
        have hg := hJ.vals 9 ddg.1
        rw [hT] at hg
        rw [show f 9 = .bool false from hg] at kg
        clear hg ddg
        rw [if_pos (wanted_of rfl rfl rfl kg)]
        clear kg
        intro K hK
        have dd88 := hdep ⟨13, .data⟩ (by simp) rfl
        have q88 := dd88.2 _ rfl _ rfl
        have h88 := hJ.vals 13 dd88.1
        rw [hT] at h88
        rw [show f 13 = .pointer (some ⟨g, 1, none⟩) from h88] at q88
        clear h88 dd88
        have hord := no_ord 14 listed
        exact ld_qid _ g q7 rfl q88 (Q1.out.ext hJ.st) (hK _ _ (hJ.next (by rw [hls]; decide) (by rw [hT]; rfl) (hJ.st) hord))
       ·have ddg := hdep ⟨9, .guard⟩ (by simp) rfl
        have kg := ddg.2 _ rfl _ rfl
        have hg := hJ.vals 9 ddg.1
        rw [hT] at hg
        rw [show f 9 = .bool false from hg] at kg
        clear hg ddg
        rw [if_pos (wanted_of rfl rfl rfl kg)]
        clear kg
        intro K hK
        have dd87 := hdep ⟨12, .data⟩ (by simp) rfl
        have q87 := dd87.2 _ rfl _ rfl
        have h87 := hJ.vals 12 dd87.1
        rw [hT] at h87
        rw [show f 12 = .map (some m) from h87] at q87
        clear h87 dd87
        have dd89 := hdep ⟨14, .data⟩ (by simp) rfl
        have q89 := dd89.2 _ rfl _ rfl
        have h89 := hJ.vals 14 dd89.1
        rw [hT] at h89
        rw [show f 14 = digV q7.id from h89] at q89
        clear h89 dd89
        have hord := no_ord 15 listed
        exact wp_mlk _ _ rfl m fl (M1.out.ext hJ.st) q7.id HLI.out q87 q89 (hK _ _ (hJ.next (by rw [hls]; decide) (by rw [hT]; exact congrArg (Value.int .i64) HFL.out) (hJ.st) hord))
       ·have ddg := hdep ⟨9, .guard⟩ (by simp) rfl
        have kg := ddg.2 _ rfl _ rfl
        have hg := hJ.vals 9 ddg.1
        rw [hT] at hg
        rw [show f 9 = .bool false from hg] at kg
        clear hg ddg
        rw [if_pos (wanted_of rfl rfl rfl kg)]
        clear kg
        intro K hK
        have q5 := hout 5 (outB_spec (by kernel_rfl))
        have hord := no_ord 16 listed
        refine wp_mv _ rfl (hK _ _ ?_)
        rw [show a.eval (.tmp 5) = .map (some (m + 1)) from q5]
        exact hJ.next (by rw [hls]; decide) (by rw [hT]; rfl) (hJ.st) hord
       ·have ddg := hdep ⟨9, .guard⟩ (by simp) rfl
        have kg := ddg.2 _ rfl _ rfl
        have hg := hJ.vals 9 ddg.1
        rw [hT] at hg
        rw [show f 9 = .bool false from hg] at kg
        clear hg ddg
        rw [if_pos (wanted_of rfl rfl rfl kg)]
        clear kg
        intro K hK
        have q7 := hout 7 (outB_spec (by kernel_rfl))
        have hord := no_ord 17 listed
        rw [Array.getD_eq_getD_getElem?] at q7
        clear hsz hdep hout hlat
        go_simp
        exact hK _ _ (hJ.next (by rw [hls]; decide) (by rw [hT]; first | rfl | exact int_eq (by omega) | exact int_eq (by rw [IntKind.wrap_i64]; omega) | exact congrArg Value.bool (decide_eq_false (by omega)) | exact congrArg Value.bool (decide_eq_true (by omega))) (hJ.st) hord)
       ·have ddg := hdep ⟨9, .guard⟩ (by simp) rfl
        have kg := ddg.2 _ rfl _ rfl
        have hg := hJ.vals 9 ddg.1
        rw [hT] at hg
        rw [show f 9 = .bool false from hg] at kg
        clear hg ddg
        rw [if_pos (wanted_of rfl rfl rfl kg)]
        clear kg
        intro K hK
        have dd92 := hdep ⟨17, .data⟩ (by simp) rfl
        have q92 := dd92.2 _ rfl _ rfl
        have h92 := hJ.vals 17 dd92.1
        rw [hT] at h92
        rw [show f 17 = .pointer (some ⟨g, 1, none⟩) from h92] at q92
        clear h92 dd92
        have hord := no_ord 18 listed
        exact ld_qid _ g q7 rfl q92 (Q1.out.ext hJ.st) (hK _ _ (hJ.next (by rw [hls]; decide) (by rw [hT]; rfl) (hJ.st) hord))
       ·have ddg := hdep ⟨9, .guard⟩ (by simp) rfl
        have kg := ddg.2 _ rfl _ rfl
        have hg := hJ.vals 9 ddg.1
        rw [hT] at hg
        rw [show f 9 = .bool false from hg] at kg
        clear hg ddg
        rw [if_pos (wanted_of rfl rfl rfl kg)]
        clear kg
        intro K hK
        have dd91 := hdep ⟨16, .data⟩ (by simp) rfl
        have q91 := dd91.2 _ rfl _ rfl
        have h91 := hJ.vals 16 dd91.1
        rw [hT] at h91
        rw [show f 16 = .map (some (m + 1)) from h91] at q91
        clear h91 dd91
        have dd93 := hdep ⟨18, .data⟩ (by simp) rfl
        have q93 := dd93.2 _ rfl _ rfl
        have h93 := hJ.vals 18 dd93.1
        rw [hT] at h93
        rw [show f 18 = digV q7.id from h93] at q93
        clear h93 dd93
        have hord := no_ord 19 listed
        exact wp_mlk _ _ rfl (m + 1) fw2 (M2.out.ext hJ.st) q7.id HLI.out q91 q93 (hK _ _ (hJ.next (by rw [hls]; decide) (by rw [hT]; exact congrArg (Value.int .i64) HFW.out) (hJ.st) hord))
       ·have ddg := hdep ⟨9, .guard⟩ (by simp) rfl
        have kg := ddg.2 _ rfl _ rfl
        have hg := hJ.vals 9 ddg.1
        rw [hT] at hg
        rw [show f 9 = .bool false from hg] at kg
        clear hg ddg
        rw [if_pos (wanted_of rfl rfl rfl kg)]
        clear kg
        intro K hK
        have dd90 := hdep ⟨15, .data⟩ (by simp) rfl
        have q90 := dd90.2 _ rfl _ rfl
        have h90 := hJ.vals 15 dd90.1
        rw [hT] at h90
        rw [show f 15 = .int .i64 l3 from h90] at q90
        clear h90 dd90
        have dd94 := hdep ⟨19, .data⟩ (by simp) rfl
        have q94 := dd94.2 _ rfl _ rfl
        have h94 := hJ.vals 19 dd94.1
        rw [hT] at h94
        rw [show f 19 = .int .i64 (u + 1) from h94] at q94
        clear h94 dd94
        have hord := no_ord 20 listed
        rw [Array.getD_eq_getD_getElem?] at q90
        rw [Array.getD_eq_getD_getElem?] at q94
        clear hsz hdep hout hlat
        go_simp
        exact hK _ _ (hJ.next (by rw [hls]; decide) (by rw [hT]; first | rfl | exact int_eq (by omega) | exact int_eq (by rw [IntKind.wrap_i64]; omega) | exact congrArg Value.bool (decide_eq_false (by omega)) | exact congrArg Value.bool (decide_eq_true (by omega))) (hJ.st) hord)
       ·have ddg := hdep ⟨9, .guard⟩ (by simp) rfl
        have kg := ddg.2 _ rfl _ rfl
        have hg := hJ.vals 9 ddg.1
        rw [hT] at hg
        rw [show f 9 = .bool false from hg] at kg
        clear hg ddg
        rw [if_pos (wanted_of rfl rfl rfl kg)]
        clear kg
        intro K hK
        have dd86 := hdep ⟨11, .data⟩ (by simp) rfl
        have q86 := dd86.2 _ rfl _ rfl
        have h86 := hJ.vals 11 dd86.1
        rw [hT] at h86
        rw [show f 11 = .int .i64 (l3 - (u + 1)) from h86] at q86
        clear h86 dd86
        have dd95 := hdep ⟨20, .data⟩ (by simp) rfl
        have q95 := dd95.2 _ rfl _ rfl
        have h95 := hJ.vals 20 dd95.1
        rw [hT] at h95
        rw [show f 20 = .int .i64 (l3 - (u + 1)) from h95] at q95
        clear h95 dd95
        have hord := no_ord 21 listed
        rw [Array.getD_eq_getD_getElem?] at q86
        rw [Array.getD_eq_getD_getElem?] at q95
        clear hsz hdep hout hlat
        go_simp
        exact hK _ _ (hJ.next (by rw [hls]; decide) (by rw [hT]; first | rfl | exact int_eq (by omega) | exact int_eq (by rw [IntKind.wrap_i64]; omega) | exact congrArg Value.bool (decide_eq_false (by omega)) | exact congrArg Value.bool (decide_eq_true (by omega))) (hJ.st) hord)
       ·rw [if_pos (by rfl)]
        intro K hK
        have dd84 := hdep ⟨9, .data⟩ (by simp) rfl
        have q84 := dd84.2 _ rfl _ rfl
        have h84 := hJ.vals 9 dd84.1
        rw [hT] at h84
        rw [show f 9 = .bool false from h84] at q84
        clear h84 dd84
        have dd96 := hdep ⟨21, .data⟩ (by simp) rfl
        have q96 := dd96.2 _ rfl _ rfl
        have h96 := hJ.vals 21 dd96.1
        rw [hT] at h96
        rw [show f 21 = .bool false from h96] at q96
        clear h96 dd96
        have hord := no_ord 22 listed
        rw [Array.getD_eq_getD_getElem?] at q84
        rw [Array.getD_eq_getD_getElem?] at q96
        clear hsz hdep hout hlat
        go_simp
        exact hK _ _ (hJ.next (by rw [hls]; decide) (by rw [hT]; first | rfl | exact int_eq (by omega) | exact int_eq (by rw [IntKind.wrap_i64]; omega) | exact congrArg Value.bool (decide_eq_false (by omega)) | exact congrArg Value.bool (decide_eq_true (by omega))) (hJ.st) hord)
      ·intro listed f wz2 hall hJ
       have f22 : f 22 = .bool false := by
        have h := hJ.vals 22 (hall 22 (by simp))
        rw [hT] at h; exact h
       have hst := hJ.st
       simp only [putAll, Act.put, List.setIfInBounds_toArray, List.set_cons_zero, List.set_cons_succ, Nat.zero_add, Nat.reduceAdd]
       have xx : Ex wz wz2 := hst
       replace HIM := Lib.hid (HIM.out.ext xx)
       replace M1 := Lib.hid (M1.out.ext xx)
       replace M2 := Lib.hid (M2.out.ext xx)
       replace Q1 := Lib.hid (Q1.out.ext xx)
       replace R1 := Lib.hid (R1.out.ext xx)
       replace BW := Lib.hid (Ex.trans BW.out xx)
       rw [f22]
       clear f22
       clear hJ hall hT
       generalize f 0 = y0
       generalize f 1 = y1
       generalize f 2 = y2
       generalize f 3 = y3
       generalize f 4 = y4
       generalize f 5 = y5
       generalize f 6 = y6
       generalize f 7 = y7
       generalize f 8 = y8
       generalize f 9 = y9
       generalize f 10 = y10
       generalize f 11 = y11
       generalize f 12 = y12
       generalize f 13 = y13
       generalize f 14 = y14
       generalize f 15 = y15
       generalize f 16 = y16
       generalize f 17 = y17
       generalize f 18 = y18
       generalize f 19 = y19
       generalize f 20 = y20
       generalize f 21 = y21
       clear xx hst hS0
       go_wp2_with (first | ((with_reducible refine stop_big ?_ ?_); (focus rfl)) | (with_reducible refine stop_build ?_) | ((with_reducible refine stop_beq ?_ ?_); (focus rfl)) | (with_reducible refine stop_load (t := 76) ?_) | (with_reducible refine stop_mu ?_) | (with_reducible refine stop_lk ?_) | (with_reducible refine stop_store (t := 3) ?_))
       (first | ((with_reducible refine ⟨?_⟩); (with_reducible refine at_not ?_ ?_); (focus (go_simp; done)); go_wp2_with (first | ((with_reducible refine stop_big ?_ ?_); (focus rfl)) | (with_reducible refine stop_build ?_) | ((with_reducible refine stop_beq ?_ ?_); (focus rfl)) | (with_reducible refine stop_load (t := 76) ?_) | (with_reducible refine stop_mu ?_) | (with_reducible refine stop_lk ?_) | (with_reducible refine stop_store (t := 3) ?_))) | skip)
       have hS0 : ∀ (listed : Array Bool) (f : Nat → Value), (∀ i, listed.getD i false = false) → Ex wz2 wz2.drew := fun _ _ _ => (Below.refl wz2.heap.size wz2).drew
       obtain ⟨T, hT⟩ : ∃ T : List (Value → Prop), T = [(fun x => x = .pointer (some ⟨h8, 7, none⟩)), (fun x => x = .slice y.sec.ad (0 : Nat) y.sec.cap), (fun x => x = .int .i64 0), (fun x => x = .bool false), (fun x => x = .bool false), (fun x => x = undef), (fun x => x = undef), (fun x => x = undef), (fun x => x = undef), (fun x => x = undef), (fun x => x = undef), (fun x => x = undef), (fun x => x = undef), (fun x => x = undef), (fun x => x = .bool false)] := ⟨_, rfl⟩
       refine wp_region_gen (JS T ([] : List (Nat × Nat)) (fun _ _ w => Ex wz2 w)) (by kernel_rfl) (by kernel_rfl) (by kernel_rfl) (fitB_spec (by kernel_rfl)) (fun listed f h => JS.start listed f h (hS0 listed f h)) ?_ ?_
       ·intro i o ho
        have hi : i < 15 := (Array.getElem?_eq_some_iff.1 ho).1
        have hi' : i = 0 ∨ i = 1 ∨ i = 2 ∨ i = 3 ∨ i = 4 ∨ i = 5 ∨ i = 6 ∨ i = 7 ∨ i = 8 ∨ i = 9 ∨ i = 10 ∨ i = 11 ∨ i = 12 ∨ i = 13 ∨ i = 14 := by omega
        clear hi
        rcases hi' with rfl | rfl | rfl | rfl | rfl | rfl | rfl | rfl | rfl | rfl | rfl | rfl | rfl | rfl | rfl
        all_goals (simp only [List.getElem?_toArray, List.getElem?_cons_zero, List.getElem?_cons_succ, Option.some.injEq] at ho; subst ho; intro listed f a wy hJ hsz hls hun hdep hout hlat)
        ·rw [if_pos (by rfl)]
         intro K hK
         have q8 := hout 8 (outB_spec (by kernel_rfl))
         have hord := no_ord 0 listed
         rw [Array.getD_eq_getD_getElem?] at q8
         clear hsz hdep hout hlat
         go_simp
         exact hK _ _ (hJ.next (by rw [hls]; decide) (by rw [hT]; first | rfl | exact int_eq (by omega) | exact int_eq (by rw [IntKind.wrap_i64]; omega) | exact congrArg Value.bool (decide_eq_false (by omega)) | exact congrArg Value.bool (decide_eq_true (by omega))) (hJ.st) hord)
        ·rw [if_pos (by rfl)]
         intro K hK
         have dd98 := hdep ⟨0, .data⟩ (by simp) rfl
         have q98 := dd98.2 _ rfl _ rfl
         have h98 := hJ.vals 0 dd98.1
         rw [hT] at h98
         rw [show f 0 = .pointer (some ⟨h8, 7, none⟩) from h98] at q98
         clear h98 dd98
         have hord := no_ord 1 listed
         have cc := (RB.cells (R1.out.ext hJ.st))
         obtain ⟨_, _, r6, r7, _, _⟩ := cc
         unfold Pt.V at r7
         rw [show y.sec.l.length = 0 from RS.out] at r7
         rw [Array.getD_eq_getD_getElem?] at q98
         clear hsz hdep hout hlat
         go_simp
         exact hK _ _ (hJ.next (by rw [hls]; decide) (by rw [hT]; first | rfl | exact int_eq (by omega) | exact int_eq (by rw [IntKind.wrap_i64]; omega)) (hJ.st) hord)
        ·rw [if_pos (by rfl)]
         intro K hK
         have dd99 := hdep ⟨1, .data⟩ (by simp) rfl
         have q99 := dd99.2 _ rfl _ rfl
         have h99 := hJ.vals 1 dd99.1
         rw [hT] at h99
         rw [show f 1 = .slice y.sec.ad (0 : Nat) y.sec.cap from h99] at q99
         clear h99 dd99
         have hord := no_ord 2 listed
         rw [Array.getD_eq_getD_getElem?] at q99
         clear hsz hdep hout hlat
         go_simp
         exact hK _ _ (hJ.next (by rw [hls]; decide) (by rw [hT]; first | rfl | exact int_eq (by omega) | exact int_eq (by rw [IntKind.wrap_i64]; omega) | exact congrArg Value.bool (decide_eq_false (by omega)) | exact congrArg Value.bool (decide_eq_true (by omega))) (hJ.st) hord)
        ·rw [if_pos (by rfl)]
         intro K hK
         have dd100 := hdep ⟨2, .data⟩ (by simp) rfl
         have q100 := dd100.2 _ rfl _ rfl
         have h100 := hJ.vals 2 dd100.1
         rw [hT] at h100
         rw [show f 2 = .int .i64 0 from h100] at q100
         clear h100 dd100
         have hord := no_ord 3 listed
         rw [Array.getD_eq_getD_getElem?] at q100
         clear hsz hdep hout hlat
         go_simp
         exact hK _ _ (hJ.next (by rw [hls]; decide) (by rw [hT]; first | rfl | exact int_eq (by omega) | exact int_eq (by rw [IntKind.wrap_i64]; omega) | exact congrArg Value.bool (decide_eq_false (by omega)) | exact congrArg Value.bool (decide_eq_true (by omega))) (hJ.st) hord)
        ·rw [if_pos (by rfl)]
         intro K hK
         have dd101 := hdep ⟨3, .data⟩ (by simp) rfl
         have q101 := dd101.2 _ rfl _ rfl
         have h101 := hJ.vals 3 dd101.1
         rw [hT] at h101
         rw [show f 3 = .bool false from h101] at q101
         clear h101 dd101
         have hord := no_ord 4 listed
         refine wp_mv _ rfl (hK _ _ ?_)
         rw [show a.eval (.tmp 101) = .bool false from q101]
         exact hJ.next (by rw [hls]; decide) (by rw [hT]; rfl) (hJ.st) hord
        ·have ddg := hdep ⟨4, .guard⟩ (by simp) rfl
         have kg := ddg.2 _ rfl _ rfl
         have hg := hJ.vals 4 ddg.1
         rw [hT] at hg
         rw [show f 4 = .bool false from hg] at kg
         clear hg ddg
         have hord := no_ord 5 listed
         rw [if_neg (not_wanted rfl rfl rfl kg (by decide))]
         exact hJ.next (by rw [hls]; decide) (by rw [hT]; first | exact trivial | rfl) (hJ.st) hord
        ·have ddg := hdep ⟨4, .guard⟩ (by simp) rfl
         have kg := ddg.2 _ rfl _ rfl
         have hg := hJ.vals 4 ddg.1
         rw [hT] at hg
         rw [show f 4 = .bool false from hg] at kg
         clear hg ddg
         have hord := no_ord 6 listed
         rw [if_neg (not_wanted rfl rfl rfl kg (by decide))]
         exact hJ.next (by rw [hls]; decide) (by rw [hT]; first | exact trivial | rfl) (hJ.st) hord
        ·have ddg := hdep ⟨4, .guard⟩ (by simp) rfl
         have kg := ddg.2 _ rfl _ rfl
         have hg := hJ.vals 4 ddg.1
         rw [hT] at hg
         rw [show f 4 = .bool false from hg] at kg
         clear hg ddg
         have hord := no_ord 7 listed
         rw [if_neg (not_wanted rfl rfl rfl kg (by decide))]
         exact hJ.next (by rw [hls]; decide) (by rw [hT]; first | exact trivial | rfl) (hJ.st) hord
        ·have ddg := hdep ⟨4, .guard⟩ (by simp) rfl
         have kg := ddg.2 _ rfl _ rfl
         have hg := hJ.vals 4 ddg.1
         rw [hT] at hg
         rw [show f 4 = .bool false from hg] at kg
         clear hg ddg
         have hord := no_ord 8 listed
         rw [if_neg (not_wanted rfl rfl rfl kg (by decide))]
         exact hJ.next (by rw [hls]; decide) (by rw [hT]; first | exact trivial | rfl) (hJ.st) hord
        ·have ddg := hdep ⟨4, .guard⟩ (by simp) rfl
         have kg := ddg.2 _ rfl _ rfl
         have hg := hJ.vals 4 ddg.1
         rw [hT] at hg
         rw [show f 4 = .bool false from hg] at kg
         clear hg ddg
         have hord := no_ord 9 listed
         rw [if_neg (not_wanted rfl rfl rfl kg (by decide))]
         exact hJ.next (by rw [hls]; decide) (by rw [hT]; first | exact trivial | rfl) (hJ.st) hord
        ·have ddg := hdep ⟨4, .guard⟩ (by simp) rfl
         have kg := ddg.2 _ rfl _ rfl
         have hg := hJ.vals 4 ddg.1
         rw [hT] at hg
         rw [show f 4 = .bool false from hg] at kg
         clear hg ddg
         have hord := no_ord 10 listed
         rw [if_neg (not_wanted rfl rfl rfl kg (by decide))]
         exact hJ.next (by rw [hls]; decide) (by rw [hT]; first | exact trivial | rfl) (hJ.st) hord
        ·have ddg := hdep ⟨4, .guard⟩ (by simp) rfl
         have kg := ddg.2 _ rfl _ rfl
         have hg := hJ.vals 4 ddg.1
         rw [hT] at hg
         rw [show f 4 = .bool false from hg] at kg
         clear hg ddg
         have hord := no_ord 11 listed
         rw [if_neg (not_wanted rfl rfl rfl kg (by decide))]
         exact hJ.next (by rw [hls]; decide) (by rw [hT]; first | exact trivial | rfl) (hJ.st) hord
        ·have ddg := hdep ⟨4, .guard⟩ (by simp) rfl
         have kg := ddg.2 _ rfl _ rfl
         have hg := hJ.vals 4 ddg.1
         rw [hT] at hg
         rw [show f 4 = .bool false from hg] at kg
         clear hg ddg
         have hord := no_ord 12 listed
         rw [if_neg (not_wanted rfl rfl rfl kg (by decide))]
         exact hJ.next (by rw [hls]; decide) (by rw [hT]; first | exact trivial | rfl) (hJ.st) hord
        ·have ddg := hdep ⟨4, .guard⟩ (by simp) rfl
         have kg := ddg.2 _ rfl _ rfl
         have hg := hJ.vals 4 ddg.1
         rw [hT] at hg
         rw [show f 4 = .bool false from hg] at kg
         clear hg ddg
         have hord := no_ord 13 listed
         rw [if_neg (not_wanted rfl rfl rfl kg (by decide))]
         exact hJ.next (by rw [hls]; decide) (by rw [hT]; first | exact trivial | rfl) (hJ.st) hord
        ·rw [if_pos (by rfl)]
         intro K hK
         have dd102 := hdep ⟨4, .data⟩ (by simp) rfl
         have q102 := dd102.2 _ rfl _ rfl
         have h102 := hJ.vals 4 dd102.1
         rw [hT] at h102
         rw [show f 4 = .bool false from h102] at q102
         clear h102 dd102
         have dd111 := hdep ⟨13, .data⟩ (by simp) rfl
         have q111 := dd111.2 _ rfl _ rfl
         have h111 := hJ.vals 13 dd111.1
         rw [hT] at h111
         rw [show f 13 = undef from h111] at q111
         clear h111 dd111
         have hord := no_ord 14 listed
         rw [Array.getD_eq_getD_getElem?] at q102
         rw [Array.getD_eq_getD_getElem?] at q111
         clear hsz hdep hout hlat
         go_simp
         exact hK _ _ (hJ.next (by rw [hls]; decide) (by rw [hT]; first | rfl | exact int_eq (by omega) | exact int_eq (by rw [IntKind.wrap_i64]; omega) | exact congrArg Value.bool (decide_eq_false (by omega)) | exact congrArg Value.bool (decide_eq_true (by omega))) (hJ.st) hord)
       ·intro listed f wy hall hJ
        have f14 : f 14 = .bool false := by
         have h := hJ.vals 14 (hall 14 (by simp))
         rw [hT] at h; exact h
        have hst := hJ.st
        simp only [putAll, Act.put, List.setIfInBounds_toArray, List.set_cons_zero, List.set_cons_succ, Nat.zero_add, Nat.reduceAdd]
        have xx : Ex wz2 wy := hst
        replace HIM := Lib.hid (HIM.out.ext xx)
        replace M1 := Lib.hid (M1.out.ext xx)
        replace M2 := Lib.hid (M2.out.ext xx)
        replace Q1 := Lib.hid (Q1.out.ext xx)
        replace R1 := Lib.hid (R1.out.ext xx)
        replace BW := Lib.hid (Ex.trans BW.out xx)
        rw [f14]
        clear f14
        clear hJ hall hT
        generalize f 0 = y0
        generalize f 1 = y1
        generalize f 2 = y2
        generalize f 3 = y3
        generalize f 4 = y4
        generalize f 5 = y5
        generalize f 6 = y6
        generalize f 7 = y7
        generalize f 8 = y8
        generalize f 9 = y9
        generalize f 10 = y10
        generalize f 11 = y11
        generalize f 12 = y12
        generalize f 13 = y13
        clear xx hst hS0
        go_wp2_with (first | ((with_reducible refine stop_big ?_ ?_); (focus rfl)) | (with_reducible refine stop_build ?_) | ((with_reducible refine stop_beq ?_ ?_); (focus rfl)) | (with_reducible refine stop_load (t := 76) ?_) | (with_reducible refine stop_mu ?_) | (with_reducible refine stop_lk ?_) | (with_reducible refine stop_store (t := 3) ?_))
        replace HL2 : Hid (LimI v2 fw2 fl) := Lib.hid (by rw [← HF2.out]; exact HL2.out)
        go_roundw
        case rel => exact ⟨k + 1, r2, v2, _, _, by omega, by omega, by go_num, HIM, HV, HH, HL2, M1, M2, BW⟩
        case measure => simp [intOf]; omega
    | removed ho hw hsec =>
     have RS : Hid (y.sec.l.length = 0) := Lib.hid (by rw [← hyc] at hsec; rw [show y.sec.l = [] from hsec]; rfl)
     have RW : Hid (y.why = 0) := Lib.hid (by rw [← hyc] at hw; exact hw)
     subst hqc
     have HO : Hid (q7.op = 4) := Lib.hid ho
     clear hyc ho hw hsec
     obtain ⟨q0c, q21, q22, q55, q56⟩ := Q1.out.cells
     obtain ⟨r0, r5, r6, r7, r8, r9⟩ := R1.out.cells
     unfold Pt.V at r7
     clear q21 q55 q56 r5 r8 r9
     rw [show y.why = 0 from RW.out] at r0
     rw [show q7.op = 4 from HO.out] at q0c
     rw [show y.sec.l.length = 0 from RS.out] at r7
     go_wp2_with (first | ((with_reducible refine stop_big ?_ ?_); (focus rfl)) | (with_reducible refine stop_build ?_) | ((with_reducible refine stop_beq ?_ ?_); (focus rfl)) | (with_reducible refine stop_load (t := 76) ?_) | (with_reducible refine stop_mu ?_) | (with_reducible refine stop_lk ?_) | (with_reducible refine stop_store (t := 3) ?_))
     (first | ((with_reducible refine ⟨?_⟩); (with_reducible refine at_not ?_ ?_); (focus (go_simp; done)); go_wp2_with (first | ((with_reducible refine stop_big ?_ ?_); (focus rfl)) | (with_reducible refine stop_build ?_) | ((with_reducible refine stop_beq ?_ ?_); (focus rfl)) | (with_reducible refine stop_load (t := 76) ?_) | (with_reducible refine stop_mu ?_) | (with_reducible refine stop_lk ?_) | (with_reducible refine stop_store (t := 3) ?_))) | skip)
     (first | ((with_reducible refine ⟨?_⟩); (with_reducible refine at_not ?_ ?_); (focus (go_simp; done)); go_wp2_with (first | ((with_reducible refine stop_big ?_ ?_); (focus rfl)) | (with_reducible refine stop_build ?_) | ((with_reducible refine stop_beq ?_ ?_); (focus rfl)) | (with_reducible refine stop_load (t := 76) ?_) | (with_reducible refine stop_mu ?_) | (with_reducible refine stop_lk ?_) | (with_reducible refine stop_store (t := 3) ?_))) | skip)
     clear q0c q22 r0 r6 r7
     have hS0 : ∀ (listed : Array Bool) (f : Nat → Value), (∀ i, listed.getD i false = false) → Ex wa wa.drew := fun _ _ _ => (Below.refl wa.heap.size wa).drew
     obtain ⟨T, hT⟩ : ∃ T : List (Value → Prop), T = [(fun x => x = .pointer (some ⟨h8, 7, none⟩)), (fun x => x = .slice y.sec.ad (0 : Nat) y.sec.cap), (fun x => x = .int .i64 0), (fun x => x = .bool false), (fun x => x = .bool false), (fun x => x = undef), (fun x => x = undef), (fun x => x = undef), (fun x => x = undef), (fun x => x = undef), (fun x => x = undef), (fun x => x = undef), (fun x => x = undef), (fun x => x = undef), (fun x => x = .bool false)] := ⟨_, rfl⟩
     refine wp_region_gen (JS T ([] : List (Nat × Nat)) (fun _ _ w => Ex wa w)) (by kernel_rfl) (by kernel_rfl) (by kernel_rfl) (fitB_spec (by kernel_rfl)) (fun listed f h => JS.start listed f h (hS0 listed f h)) ?_ ?_
     ·intro i o ho
      have hi : i < 15 := (Array.getElem?_eq_some_iff.1 ho).1
      have hi' : i = 0 ∨ i = 1 ∨ i = 2 ∨ i = 3 ∨ i = 4 ∨ i = 5 ∨ i = 6 ∨ i = 7 ∨ i = 8 ∨ i = 9 ∨ i = 10 ∨ i = 11 ∨ i = 12 ∨ i = 13 ∨ i = 14 := by omega
      clear hi
      rcases hi' with rfl | rfl | rfl | rfl | rfl | rfl | rfl | rfl | rfl | rfl | rfl | rfl | rfl | rfl | rfl
      all_goals (simp only [List.getElem?_toArray, List.getElem?_cons_zero, List.getElem?_cons_succ, Option.some.injEq] at ho; subst ho; intro listed f a wy hJ hsz hls hun hdep hout hlat)
      ·rw [if_pos (by rfl)]
       intro K hK
       have q8 := hout 8 (outB_spec (by kernel_rfl))
       have hord := no_ord 0 listed
       rw [Array.getD_eq_getD_getElem?] at q8
       clear hsz hdep hout hlat
       go_simp
       exact hK _ _ (hJ.next (by rw [hls]; decide) (by rw [hT]; first | rfl | exact int_eq (by omega) | exact int_eq (by rw [IntKind.wrap_i64]; omega) | exact congrArg Value.bool (decide_eq_false (by omega)) | exact congrArg Value.bool (decide_eq_true (by omega))) (hJ.st) hord)
      ·rw [if_pos (by rfl)]
       intro K hK
       have dd98 := hdep ⟨0, .data⟩ (by simp) rfl
       have q98 := dd98.2 _ rfl _ rfl
       have h98 := hJ.vals 0 dd98.1
       rw [hT] at h98
       rw [show f 0 = .pointer (some ⟨h8, 7, none⟩) from h98] at q98
       clear h98 dd98
       have hord := no_ord 1 listed
       have cc := (RB.cells (R1.out.ext hJ.st))
       obtain ⟨_, _, r6, r7, _, _⟩ := cc
       unfold Pt.V at r7
       rw [show y.sec.l.length = 0 from RS.out] at r7
       rw [Array.getD_eq_getD_getElem?] at q98
       clear hsz hdep hout hlat
       go_simp
       exact hK _ _ (hJ.next (by rw [hls]; decide) (by rw [hT]; first | rfl | exact int_eq (by omega) | exact int_eq (by rw [IntKind.wrap_i64]; omega)) (hJ.st) hord)
      ·rw [if_pos (by rfl)]
       intro K hK
       have dd99 := hdep ⟨1, .data⟩ (by simp) rfl
       have q99 := dd99.2 _ rfl _ rfl
       have h99 := hJ.vals 1 dd99.1
       rw [hT] at h99
       rw [show f 1 = .slice y.sec.ad (0 : Nat) y.sec.cap from h99] at q99
       clear h99 dd99
       have hord := no_ord 2 listed
       rw [Array.getD_eq_getD_getElem?] at q99
       clear hsz hdep hout hlat
       go_simp
       exact hK _ _ (hJ.next (by rw [hls]; decide) (by rw [hT]; first | rfl | exact int_eq (by omega) | exact int_eq (by rw [IntKind.wrap_i64]; omega) | exact congrArg Value.bool (decide_eq_false (by omega)) | exact congrArg Value.bool (decide_eq_true (by omega))) (hJ.st) hord)
      ·rw [if_pos (by rfl)]
       intro K hK
       have dd100 := hdep ⟨2, .data⟩ (by simp) rfl
       have q100 := dd100.2 _ rfl _ rfl
       have h100 := hJ.vals 2 dd100.1
       rw [hT] at h100
       rw [show f 2 = .int .i64 0 from h100] at q100
       clear h100 dd100
       have hord := no_ord 3 listed
       rw [Array.getD_eq_getD_getElem?] at q100
       clear hsz hdep hout hlat
       go_simp
       exact hK _ _ (hJ.next (by rw [hls]; decide) (by rw [hT]; first | rfl | exact int_eq (by omega) | exact int_eq (by rw [IntKind.wrap_i64]; omega) | exact congrArg Value.bool (decide_eq_false (by omega)) | exact congrArg Value.bool (decide_eq_true (by omega))) (hJ.st) hord)
      ·rw [if_pos (by rfl)]
       intro K hK
       have dd101 := hdep ⟨3, .data⟩ (by simp) rfl
       have q101 := dd101.2 _ rfl _ rfl
       have h101 := hJ.vals 3 dd101.1
       rw [hT] at h101
       rw [show f 3 = .bool false from h101] at q101
       clear h101 dd101
       have hord := no_ord 4 listed
       refine wp_mv _ rfl (hK _ _ ?_)
       rw [show a.eval (.tmp 101) = .bool false from q101]
       exact hJ.next (by rw [hls]; decide) (by rw [hT]; rfl) (hJ.st) hord
      ·have ddg := hdep ⟨4, .guard⟩ (by simp) rfl
       have kg := ddg.2 _ rfl _ rfl
       have hg := hJ.vals 4 ddg.1
       rw [hT] at hg
       rw [show f 4 = .bool false from hg] at kg
       clear hg ddg
       have hord := no_ord 5 listed
       rw [if_neg (not_wanted rfl rfl rfl kg (by decide))]
       exact hJ.next (by rw [hls]; decide) (by rw [hT]; first | exact trivial | rfl) (hJ.st) hord
      ·have ddg := hdep ⟨4, .guard⟩ (by simp) rfl
       have kg := ddg.2 _ rfl _ rfl
       have hg := hJ.vals 4 ddg.1
       rw [hT] at hg
       rw [show f 4 = .bool false from hg] at kg
       clear hg ddg
       have hord := no_ord 6 listed
       rw [if_neg (not_wanted rfl rfl rfl kg (by decide))]
       exact hJ.next (by rw [hls]; decide) (by rw [hT]; first | exact trivial | rfl) (hJ.st) hord
      ·have ddg := hdep ⟨4, .guard⟩ (by simp) rfl
       have kg := ddg.2 _ rfl _ rfl
       have hg := hJ.vals 4 ddg.1
       rw [hT] at hg
       rw [show f 4 = .bool false from hg] at kg
       clear hg ddg
       have hord := no_ord 7 listed
       rw [if_neg (not_wanted rfl rfl rfl kg (by decide))]
       exact hJ.next (by rw [hls]; decide) (by rw [hT]; first | exact trivial | rfl) (hJ.st) hord
      ·have ddg := hdep ⟨4, .guard⟩ (by simp) rfl
       have kg := ddg.2 _ rfl _ rfl
       have hg := hJ.vals 4 ddg.1
       rw [hT] at hg
       rw [show f 4 = .bool false from hg] at kg
       clear hg ddg
       have hord := no_ord 8 listed
       rw [if_neg (not_wanted rfl rfl rfl kg (by decide))]
       exact hJ.next (by rw [hls]; decide) (by rw [hT]; first | exact trivial | rfl) (hJ.st) hord
      ·have ddg := hdep ⟨4, .guard⟩ (by simp) rfl
       have kg := ddg.2 _ rfl _ rfl
       have hg := hJ.vals 4 ddg.1
       rw [hT] at hg
       rw [show f 4 = .bool false from hg] at kg
       clear hg ddg
       have hord := no_ord 9 listed
       rw [if_neg (not_wanted rfl rfl rfl kg (by decide))]
       exact hJ.next (by rw [hls]; decide) (by rw [hT]; first | exact trivial | rfl) (hJ.st) hord
      ·have ddg := hdep ⟨4, .guard⟩ (by simp) rfl
       have kg := ddg.2 _ rfl _ rfl
       have hg := hJ.vals 4 ddg.1
       rw [hT] at hg
       rw [show f 4 = .bool false from hg] at kg
       clear hg ddg
       have hord := no_ord 10 listed
       rw [if_neg (not_wanted rfl rfl rfl kg (by decide))]
       exact hJ.next (by rw [hls]; decide) (by rw [hT]; first | exact trivial | rfl) (hJ.st) hord
      ·have ddg := hdep ⟨4, .guard⟩ (by simp) rfl
       have kg := ddg.2 _ rfl _ rfl
       have hg := hJ.vals 4 ddg.1
       rw [hT] at hg
       rw [show f 4 = .bool false from hg] at kg
       clear hg ddg
       have hord := no_ord 11 listed
       rw [if_neg (not_wanted rfl rfl rfl kg (by decide))]
       exact hJ.next (by rw [hls]; decide) (by rw [hT]; first | exact trivial | rfl) (hJ.st) hord
      ·have ddg := hdep ⟨4, .guard⟩ (by simp) rfl
       have kg := ddg.2 _ rfl _ rfl
       have hg := hJ.vals 4 ddg.1
       rw [hT] at hg
       rw [show f 4 = .bool false from hg] at kg
       clear hg ddg
       have hord := no_ord 12 listed
       rw [if_neg (not_wanted rfl rfl rfl kg (by decide))]
       exact hJ.next (by rw [hls]; decide) (by rw [hT]; first | exact trivial | rfl) (hJ.st) hord
      ·have ddg := hdep ⟨4, .guard⟩ (by simp) rfl
       have kg := ddg.2 _ rfl _ rfl
       have hg := hJ.vals 4 ddg.1
       rw [hT] at hg
       rw [show f 4 = .bool false from hg] at kg
       clear hg ddg
       have hord := no_ord 13 listed
       rw [if_neg (not_wanted rfl rfl rfl kg (by decide))]
       exact hJ.next (by rw [hls]; decide) (by rw [hT]; first | exact trivial | rfl) (hJ.st) hord
      ·rw [if_pos (by rfl)]
       intro K hK
       have dd102 := hdep ⟨4, .data⟩ (by simp) rfl
       have q102 := dd102.2 _ rfl _ rfl
       have h102 := hJ.vals 4 dd102.1
       rw [hT] at h102
       rw [show f 4 = .bool false from h102] at q102
       clear h102 dd102
       have dd111 := hdep ⟨13, .data⟩ (by simp) rfl
       have q111 := dd111.2 _ rfl _ rfl
       have h111 := hJ.vals 13 dd111.1
       rw [hT] at h111
       rw [show f 13 = undef from h111] at q111
       clear h111 dd111
       have hord := no_ord 14 listed
       rw [Array.getD_eq_getD_getElem?] at q102
       rw [Array.getD_eq_getD_getElem?] at q111
       clear hsz hdep hout hlat
       go_simp
       exact hK _ _ (hJ.next (by rw [hls]; decide) (by rw [hT]; first | rfl | exact int_eq (by omega) | exact int_eq (by rw [IntKind.wrap_i64]; omega) | exact congrArg Value.bool (decide_eq_false (by omega)) | exact congrArg Value.bool (decide_eq_true (by omega))) (hJ.st) hord)
     ·intro listed f wy hall hJ
      have f14 : f 14 = .bool false := by
       have h := hJ.vals 14 (hall 14 (by simp))
       rw [hT] at h; exact h
      have hst := hJ.st
      simp only [putAll, Act.put, List.setIfInBounds_toArray, List.set_cons_zero, List.set_cons_succ, Nat.zero_add, Nat.reduceAdd]
      have xx : Ex wa wy := hst
      replace HIM := Lib.hid (HIM.out.ext xx)
      replace M1 := Lib.hid (M1.out.ext xx)
      replace M2 := Lib.hid (M2.out.ext xx)
      replace Q1 := Lib.hid (Q1.out.ext xx)
      replace R1 := Lib.hid (R1.out.ext xx)
      replace BW := Lib.hid (Ex.trans BW.out xx)
      rw [f14]
      clear f14
      clear hJ hall hT
      generalize f 0 = y0
      generalize f 1 = y1
      generalize f 2 = y2
      generalize f 3 = y3
      generalize f 4 = y4
      generalize f 5 = y5
      generalize f 6 = y6
      generalize f 7 = y7
      generalize f 8 = y8
      generalize f 9 = y9
      generalize f 10 = y10
      generalize f 11 = y11
      generalize f 12 = y12
      generalize f 13 = y13
      clear xx hst hS0
      go_wp2_with (first | ((with_reducible refine stop_big ?_ ?_); (focus rfl)) | (with_reducible refine stop_build ?_) | ((with_reducible refine stop_beq ?_ ?_); (focus rfl)) | (with_reducible refine stop_load (t := 76) ?_) | (with_reducible refine stop_mu ?_) | (with_reducible refine stop_lk ?_) | (with_reducible refine stop_store (t := 3) ?_))
      go_roundw
      case rel => exact ⟨k + 1, r2, v2, _, _, by omega, by omega, by go_num, HIM, HV, HH, HL2, M1, M2, BW⟩
      case measure => simp [intOf]; omega
  ·by_cases hn2 : k < n
   ·have q2 : ¬ (k : Int) < 80 := by omega
    have q1 : (k : Int) < (n : Int) := by omega
    go_wp2_with (first | ((with_reducible refine stop_big ?_ ?_); (focus rfl)) | (with_reducible refine stop_build ?_) | ((with_reducible refine stop_beq ?_ ?_); (focus rfl)) | (with_reducible refine stop_load (t := 76) ?_) | (with_reducible refine stop_mu ?_) | (with_reducible refine stop_lk ?_) | (with_reducible refine stop_store (t := 3) ?_))
    refine (known23 wr).mono ?_
    rintro e w9 ⟨rfl, xx⟩
    replace BW := Lib.hid (Ex.trans BW.out xx)
    clear xx
    go_wp2_with fail
    go_ret
    exact ⟨rfl, BW.out⟩
   have q1 : ¬ (k : Int) < (n : Int) := by omega
   go_wp2_with (first | ((with_reducible refine stop_big ?_ ?_); (focus rfl)) | (with_reducible refine stop_build ?_) | ((with_reducible refine stop_beq ?_ ?_); (focus rfl)) | (with_reducible refine stop_load (t := 76) ?_) | (with_reducible refine stop_mu ?_) | (with_reducible refine stop_lk ?_) | (with_reducible refine stop_store (t := 3) ?_))
   refine (known23 wr).mono ?_
   rintro e w9 ⟨rfl, xx⟩
   replace BW := Lib.hid (Ex.trans BW.out xx)
   clear xx
   go_wp2_with fail
   go_ret
   exact ⟨rfl, BW.out⟩
theorem limits_law (v : Value) (w : World) (h : KpRow w v) : Calls Try.prog 11 #[v] w fun e w' => e = .returned (.bool true) ∧ Below w.heap.size w w' := by
 obtain ⟨ad, cap, l, rfl, hin, hl⟩ := h
 exact limits_any ad cap l hl w hin
end Go.Proofs.Ytmjfnpmnhehnkaa
