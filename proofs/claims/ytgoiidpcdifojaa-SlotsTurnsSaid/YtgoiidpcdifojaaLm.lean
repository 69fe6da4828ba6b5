/- disks: Same -/
import Derived.Test.YtgoiidpcdifojaaLj
namespace Go.Proofs.Ytgoiidpcdifojaa
open Go.RowKit
theorem ctL_at (l : List (Bool × Sm.Pt)) (i : Nat) (x : Bool × Sm.Pt) (h : l[i]? = some x) : (ctL l)[i]? = some (x.1, x.2.l) := by unfold ctL; rw [List.getElem?_map, h]; rfl
theorem take_eq {α : Type} (A B : List α) (i : Nat) (x y : α) (hx : A[i]? = some x) (hy : B[i]? = some y) (h : A.take i = B.take i) (e : x = y) : A.take (i + 1) = B.take (i + 1) := by
  rw [List.take_add_one, List.take_add_one, hx, hy, h, e]
set_option maxHeartbeats 8000000 in
set_option maxRecDepth 100000 in
theorem same7_any (ga gb : Nat) (ca cb : Dc) (w : World) (ha : DK w ga ca) (hb : DK w gb cb) :
    Calls Try.prog 22 #[.pointer (some ⟨ga, 0, none⟩), .pointer (some ⟨gb, 0, none⟩)] w fun e w' => e = .returned (.bool (decide (ca.now = cb.now))) ∧ Below w.heap.size w w' := by
  have NA := Lib.hid (show ca.now.length = 10 by obtain ⟨d, hd, hc⟩ := ha; rw [← hc]; show (ctL d.now).length = 10; unfold ctL; rw [List.length_map]; exact hd.n10)
  have NB := Lib.hid (show cb.now.length = 10 by obtain ⟨d, hd, hc⟩ := hb; rw [← hc]; show (ctL d.now).length = 10; unfold ctL; rw [List.length_map]; exact hd.n10)
  have da := Lib.hid ha
  have db := Lib.hid hb
  have bw := Lib.hid (Ex.refl w)
  clear ha hb
  go_enter Try.func22, Try.ntmps22
  go_wp2_with fail
  go_loopw [12] (fun iv wr => ∃ (i : Nat), i ≤ 10 ∧ iv = .int .i64 i ∧ Hid (ca.now.take i = cb.now.take i) ∧ Hid (DK wr ga ca) ∧ Hid (DK wr gb cb) ∧ Hid (Ex w wr)) (fun iv _ => 10 - (intOf iv).toNat)
  case atStart => exact ⟨0, by omega, rfl, Lib.hid rfl, da, db, bw⟩
  case round =>
    clear da db bw
    obtain ⟨i, hi, rfl, tk, da, db, bw⟩ := hrel
    by_cases hi10 : i < 10
    · have q0 : (0 : Int) ≤ (i : Int) := by omega
      have q1 : (i : Int) < 10 := by omega
      have Z0 := Lib.hid q0
      have Z1 := Lib.hid q1
      obtain ⟨dA, hdA, hcA⟩ := da.out
      obtain ⟨dB, hdB, hcB⟩ := db.out
      obtain ⟨⟨bx, p⟩, hxa⟩ : ∃ x, dA.now[i]? = some x := ⟨_, List.getElem?_eq_getElem (by rw [hdA.n10]; exact hi10)⟩
      obtain ⟨⟨by_, q⟩, hxb⟩ : ∃ x, dB.now[i]? = some x := ⟨_, List.getElem?_eq_getElem (by rw [hdB.n10]; exact hi10)⟩
      obtain ⟨k1, k2⟩ := dk_now_at hdA i _ hxa
      obtain ⟨l1, l2⟩ := dk_now_at hdB i _ hxb
      rw [Nat.mul_comm 2 i] at k1 k2 l1 l2
      have HXA := Lib.hid (show ca.now[i]? = some (bx, p.l) by rw [← hcA]; exact ctL_at _ _ _ hxa)
      have HXB := Lib.hid (show cb.now[i]? = some (by_, q.l) by rw [← hcB]; exact ctL_at _ _ _ hxb)
      obtain ⟨pa, pn, pc, hpv⟩ : ∃ (pa : Option Addr) (pn pc : Nat), p.V = .slice pa pn pc := ⟨_, _, _, rfl⟩
      obtain ⟨qa, qn, qc, hqv⟩ : ∃ (pa : Option Addr) (pn pc : Nat), q.V = .slice pa pn pc := ⟨_, _, _, rfl⟩
      obtain ⟨eqb, heqb⟩ : ∃ b, b = decide (p.l = q.l) := ⟨_, rfl⟩
      have HEQ := Lib.hid heqb
      have EQ := Lib.hid (fun W (x : Ex wr W) => (show Calls Try.prog 47 #[.slice pa pn pc, .slice qa qn qc] W fun e w' => e = .returned (.bool eqb) ∧ W = w' by
        rw [← hpv, ← hqv, heqb]; exact Sm.equal_any p q W (Sm.Pt.In.ext (hdA.nin i _ hxa) x) (Sm.Pt.In.ext (hdB.nin i _ hxb) x)))
      have CA0 := Lib.hid k1
      have CA1 := Lib.hid (show wr.cell? ⟨ga, i * 2 + 1, none⟩ = some (.slice pa pn pc) by rw [← hpv]; exact k2)
      have CB0 := Lib.hid l1
      have CB1 := Lib.hid (show wr.cell? ⟨gb, i * 2 + 1, none⟩ = some (.slice qa qn qc) by rw [← hqv]; exact l2)
      have Lga := Lib.hid hdA.blk.lt
      have Lgb := Lib.hid hdB.blk.lt
      clear hdA hcA hdB hcB hxa hxb k1 k2 l1 l2 hpv hqv heqb
      cases bx <;> cases by_
      · -- false false
        go_wp2_with fail
        obtain ⟨T, hT⟩ : ∃ T : List (Option Value), T = [some (.pointer (some ⟨ga, 0, none⟩)), some (.int .i64 i), some (.pointer (some ⟨ga, 0, none⟩)), some (.pointer (some ⟨ga, 0, none⟩)), some (.pointer (some ⟨ga, i * 2, none⟩)), some (.pointer (some ⟨ga, i * 2, none⟩)), some (.bool false), some (.pointer (some ⟨gb, 0, none⟩)), some (.int .i64 i), some (.pointer (some ⟨gb, 0, none⟩)), some (.pointer (some ⟨gb, 0, none⟩)), some (.pointer (some ⟨gb, i * 2, none⟩)), some (.pointer (some ⟨gb, i * 2, none⟩)), some (.bool false), some (.bool false), some (.bool false), some (.pointer (some ⟨ga, 0, none⟩)), some (.int .i64 i), some (.pointer (some ⟨ga, 0, none⟩)), some (.pointer (some ⟨ga, 0, none⟩)), some (.pointer (some ⟨ga, i * 2, none⟩)), some (.pointer (some ⟨ga, i * 2 + 1, none⟩)), some (.slice pa pn pc), some (.pointer (some ⟨gb, 0, none⟩)), some (.int .i64 i), some (.pointer (some ⟨gb, 0, none⟩)), some (.pointer (some ⟨gb, 0, none⟩)), some (.pointer (some ⟨gb, i * 2, none⟩)), some (.pointer (some ⟨gb, i * 2 + 1, none⟩)), some (.slice qa qn qc), some (.bool eqb), some (.bool (!eqb)), some (.bool (!eqb))] := ⟨_, rfl⟩
        refine wp_region_gen (JL wr T 1000 1001 0 #[] #[]) (by kernel_rfl) (by kernel_rfl) (by kernel_rfl) (fitB_spec (by kernel_rfl)) (fun listed f h => JL.start _ listed f h) ?_ ?_
        · intro i o ho
          have hi : i < 33 := (Array.getElem?_eq_some_iff.1 ho).1
          have hi' : i = 0 ∨ i = 1 ∨ i = 2 ∨ i = 3 ∨ i = 4 ∨ i = 5 ∨ i = 6 ∨ i = 7 ∨ i = 8 ∨ i = 9 ∨ i = 10 ∨ i = 11 ∨ i = 12 ∨ i = 13 ∨ i = 14 ∨ i = 15 ∨ i = 16 ∨ i = 17 ∨ i = 18 ∨ i = 19 ∨ i = 20 ∨ i = 21 ∨ i = 22 ∨ i = 23 ∨ i = 24 ∨ i = 25 ∨ i = 26 ∨ i = 27 ∨ i = 28 ∨ i = 29 ∨ i = 30 ∨ i = 31 ∨ i = 32 := by omega
          clear hi
          rcases hi' with rfl | rfl | rfl | rfl | rfl | rfl | rfl | rfl | rfl | rfl | rfl | rfl | rfl | rfl | rfl | rfl | rfl | rfl | rfl | rfl | rfl | rfl | rfl | rfl | rfl | rfl | rfl | rfl | rfl | rfl | rfl | rfl | rfl
          all_goals (simp only [List.getElem?_toArray, List.getElem?_cons_zero, List.getElem?_cons_succ, Option.some.injEq] at ho; subst ho; intro listed f a w2 hJ hsz hls hun hdep hout hlat)
          · rw [if_pos (by rfl)]
            intro K hK
            have q0 := hout 0 (outB_spec (by kernel_rfl))
            refine wp_mv _ rfl (hK _ _ ?_)
            rw [show a.eval (.tmp 0) = .pointer (some ⟨ga, 0, none⟩) from q0]
            exact hJ.plain (by decide) (by decide) (Ex.refl _) (fun x hx => by rw [hT] at hx; first | exact Option.some.inj hx | simpa using hx)
          · rw [if_pos (by rfl)]
            intro K hK
            have q5 := hout 5 (outB_spec (by kernel_rfl))
            refine wp_mv _ rfl (hK _ _ ?_)
            rw [show a.eval (.tmp 5) = .int .i64 i from q5]
            exact hJ.plain (by decide) (by decide) (Ex.refl _) (fun x hx => by rw [hT] at hx; first | exact Option.some.inj hx | simpa using hx)
          · rw [if_pos (by rfl)]
            intro K hK
            have q15 := (hdep ⟨0, .data⟩ (by simp) rfl).2 _ rfl _ rfl
            rw [show f 0 = _ from hJ.vals 0 (hdep ⟨0, .data⟩ (by simp) rfl).1 (.pointer (some ⟨ga, 0, none⟩)) (by rw [hT]; rfl)] at q15
            rw [Array.getD_eq_getD_getElem?] at q15
            clear hsz hdep hout hlat
            go_simp
            exact hK _ _ (hJ.plain (by decide) (by decide) (Ex.refl _) (fun x hx => by rw [hT] at hx; first | exact Option.some.inj hx | simpa using hx))
          · rw [if_pos (by rfl)]
            intro K hK
            have q17 := (hdep ⟨2, .data⟩ (by simp) rfl).2 _ rfl _ rfl
            rw [show f 2 = _ from hJ.vals 2 (hdep ⟨2, .data⟩ (by simp) rfl).1 (.pointer (some ⟨ga, 0, none⟩)) (by rw [hT]; rfl)] at q17
            rw [Array.getD_eq_getD_getElem?] at q17
            clear hsz hdep hout hlat
            go_simp
            exact hK _ _ (hJ.plain (by decide) (by decide) (Ex.refl _) (fun x hx => by rw [hT] at hx; first | exact Option.some.inj hx | simpa using hx))
          · rw [if_pos (by rfl)]
            intro K hK
            have q18 := (hdep ⟨3, .data⟩ (by simp) rfl).2 _ rfl _ rfl
            rw [show f 3 = _ from hJ.vals 3 (hdep ⟨3, .data⟩ (by simp) rfl).1 (.pointer (some ⟨ga, 0, none⟩)) (by rw [hT]; rfl)] at q18
            have q16 := (hdep ⟨1, .data⟩ (by simp) rfl).2 _ rfl _ rfl
            rw [show f 1 = _ from hJ.vals 1 (hdep ⟨1, .data⟩ (by simp) rfl).1 (.int .i64 i) (by rw [hT]; rfl)] at q16
            rw [Array.getD_eq_getD_getElem?] at q18
            rw [Array.getD_eq_getD_getElem?] at q16
            clear hsz hdep hout hlat
            have z0 := Z0.out
            have z1 := Z1.out
            go_simp
            exact hK _ _ (hJ.plain (by decide) (by decide) (Ex.refl _) (fun x hx => by rw [hT] at hx; first | exact Option.some.inj hx | simpa using hx))
          · rw [if_pos (by rfl)]
            intro K hK
            have q19 := (hdep ⟨4, .data⟩ (by simp) rfl).2 _ rfl _ rfl
            rw [show f 4 = _ from hJ.vals 4 (hdep ⟨4, .data⟩ (by simp) rfl).1 (.pointer (some ⟨ga, i * 2, none⟩)) (by rw [hT]; rfl)] at q19
            rw [Array.getD_eq_getD_getElem?] at q19
            clear hsz hdep hout hlat
            have z0 := Z0.out
            have z1 := Z1.out
            go_simp
            exact hK _ _ (hJ.plain (by decide) (by decide) (Ex.refl _) (fun x hx => by rw [hT] at hx; first | exact Option.some.inj hx | simpa using hx))
          · rw [if_pos (by rfl)]
            intro K hK
            have q20 := (hdep ⟨5, .data⟩ (by simp) rfl).2 _ rfl _ rfl
            rw [show f 5 = _ from hJ.vals 5 (hdep ⟨5, .data⟩ (by simp) rfl).1 (.pointer (some ⟨ga, i * 2, none⟩)) (by rw [hT]; rfl)] at q20
            have f1 : w2.cell? ⟨ga, i * 2, none⟩ = some (.bool false) := (hJ.ext.cell (p := ⟨ga, i * 2, none⟩) Lga.out).trans CA0.out
            rw [Array.getD_eq_getD_getElem?] at q20
            clear hsz hdep hout hlat
            go_simp
            exact hK _ _ (hJ.plain (by decide) (by decide) (Ex.refl _) (fun x hx => by rw [hT] at hx; first | exact Option.some.inj hx | simpa using hx))
          · rw [if_pos (by rfl)]
            intro K hK
            have q1 := hout 1 (outB_spec (by kernel_rfl))
            refine wp_mv _ rfl (hK _ _ ?_)
            rw [show a.eval (.tmp 1) = .pointer (some ⟨gb, 0, none⟩) from q1]
            exact hJ.plain (by decide) (by decide) (Ex.refl _) (fun x hx => by rw [hT] at hx; first | exact Option.some.inj hx | simpa using hx)
          · rw [if_pos (by rfl)]
            intro K hK
            have q5 := hout 5 (outB_spec (by kernel_rfl))
            refine wp_mv _ rfl (hK _ _ ?_)
            rw [show a.eval (.tmp 5) = .int .i64 i from q5]
            exact hJ.plain (by decide) (by decide) (Ex.refl _) (fun x hx => by rw [hT] at hx; first | exact Option.some.inj hx | simpa using hx)
          · rw [if_pos (by rfl)]
            intro K hK
            have q22 := (hdep ⟨7, .data⟩ (by simp) rfl).2 _ rfl _ rfl
            rw [show f 7 = _ from hJ.vals 7 (hdep ⟨7, .data⟩ (by simp) rfl).1 (.pointer (some ⟨gb, 0, none⟩)) (by rw [hT]; rfl)] at q22
            rw [Array.getD_eq_getD_getElem?] at q22
            clear hsz hdep hout hlat
            go_simp
            exact hK _ _ (hJ.plain (by decide) (by decide) (Ex.refl _) (fun x hx => by rw [hT] at hx; first | exact Option.some.inj hx | simpa using hx))
          · rw [if_pos (by rfl)]
            intro K hK
            have q24 := (hdep ⟨9, .data⟩ (by simp) rfl).2 _ rfl _ rfl
            rw [show f 9 = _ from hJ.vals 9 (hdep ⟨9, .data⟩ (by simp) rfl).1 (.pointer (some ⟨gb, 0, none⟩)) (by rw [hT]; rfl)] at q24
            rw [Array.getD_eq_getD_getElem?] at q24
            clear hsz hdep hout hlat
            go_simp
            exact hK _ _ (hJ.plain (by decide) (by decide) (Ex.refl _) (fun x hx => by rw [hT] at hx; first | exact Option.some.inj hx | simpa using hx))
          · rw [if_pos (by rfl)]
            intro K hK
            have q25 := (hdep ⟨10, .data⟩ (by simp) rfl).2 _ rfl _ rfl
            rw [show f 10 = _ from hJ.vals 10 (hdep ⟨10, .data⟩ (by simp) rfl).1 (.pointer (some ⟨gb, 0, none⟩)) (by rw [hT]; rfl)] at q25
            have q23 := (hdep ⟨8, .data⟩ (by simp) rfl).2 _ rfl _ rfl
            rw [show f 8 = _ from hJ.vals 8 (hdep ⟨8, .data⟩ (by simp) rfl).1 (.int .i64 i) (by rw [hT]; rfl)] at q23
            rw [Array.getD_eq_getD_getElem?] at q25
            rw [Array.getD_eq_getD_getElem?] at q23
            clear hsz hdep hout hlat
            have z0 := Z0.out
            have z1 := Z1.out
            go_simp
            exact hK _ _ (hJ.plain (by decide) (by decide) (Ex.refl _) (fun x hx => by rw [hT] at hx; first | exact Option.some.inj hx | simpa using hx))
          · rw [if_pos (by rfl)]
            intro K hK
            have q26 := (hdep ⟨11, .data⟩ (by simp) rfl).2 _ rfl _ rfl
            rw [show f 11 = _ from hJ.vals 11 (hdep ⟨11, .data⟩ (by simp) rfl).1 (.pointer (some ⟨gb, i * 2, none⟩)) (by rw [hT]; rfl)] at q26
            rw [Array.getD_eq_getD_getElem?] at q26
            clear hsz hdep hout hlat
            have z0 := Z0.out
            have z1 := Z1.out
            go_simp
            exact hK _ _ (hJ.plain (by decide) (by decide) (Ex.refl _) (fun x hx => by rw [hT] at hx; first | exact Option.some.inj hx | simpa using hx))
          · rw [if_pos (by rfl)]
            intro K hK
            have q27 := (hdep ⟨12, .data⟩ (by simp) rfl).2 _ rfl _ rfl
            rw [show f 12 = _ from hJ.vals 12 (hdep ⟨12, .data⟩ (by simp) rfl).1 (.pointer (some ⟨gb, i * 2, none⟩)) (by rw [hT]; rfl)] at q27
            have f1 : w2.cell? ⟨gb, i * 2, none⟩ = some (.bool false) := (hJ.ext.cell (p := ⟨gb, i * 2, none⟩) Lgb.out).trans CB0.out
            rw [Array.getD_eq_getD_getElem?] at q27
            clear hsz hdep hout hlat
            go_simp
            exact hK _ _ (hJ.plain (by decide) (by decide) (Ex.refl _) (fun x hx => by rw [hT] at hx; first | exact Option.some.inj hx | simpa using hx))
          · rw [if_pos (by rfl)]
            intro K hK
            have q21 := (hdep ⟨6, .data⟩ (by simp) rfl).2 _ rfl _ rfl
            rw [show f 6 = _ from hJ.vals 6 (hdep ⟨6, .data⟩ (by simp) rfl).1 (.bool false) (by rw [hT]; rfl)] at q21
            have q28 := (hdep ⟨13, .data⟩ (by simp) rfl).2 _ rfl _ rfl
            rw [show f 13 = _ from hJ.vals 13 (hdep ⟨13, .data⟩ (by simp) rfl).1 (.bool false) (by rw [hT]; rfl)] at q28
            rw [Array.getD_eq_getD_getElem?] at q21
            rw [Array.getD_eq_getD_getElem?] at q28
            clear hsz hdep hout hlat
            go_simp
            exact hK _ _ (hJ.plain (by decide) (by decide) (Ex.refl _) (fun x hx => by rw [hT] at hx; first | exact Option.some.inj hx | simpa using hx))
          · rw [if_pos (by rfl)]
            intro K hK
            have q29 := (hdep ⟨14, .data⟩ (by simp) rfl).2 _ rfl _ rfl
            rw [show f 14 = _ from hJ.vals 14 (hdep ⟨14, .data⟩ (by simp) rfl).1 (.bool false) (by rw [hT]; rfl)] at q29
            refine wp_mv _ rfl (hK _ _ ?_)
            rw [show a.eval (.tmp 29) = .bool false from q29]
            exact hJ.plain (by decide) (by decide) (Ex.refl _) (fun x hx => by rw [hT] at hx; first | exact Option.some.inj hx | simpa using hx)
          · have kg := (hdep ⟨15, .guard⟩ (by simp) rfl).2 _ rfl _ rfl
            rw [show f 15 = _ from hJ.vals 15 (hdep ⟨15, .guard⟩ (by simp) rfl).1 (.bool false) (by rw [hT]; rfl)] at kg
            rw [if_pos (wanted_of rfl rfl rfl kg)]
            intro K hK
            have q0 := hout 0 (outB_spec (by kernel_rfl))
            refine wp_mv _ rfl (hK _ _ ?_)
            rw [show a.eval (.tmp 0) = .pointer (some ⟨ga, 0, none⟩) from q0]
            exact hJ.plain (by decide) (by decide) (Ex.refl _) (fun x hx => by rw [hT] at hx; first | exact Option.some.inj hx | simpa using hx)
          · have kg := (hdep ⟨15, .guard⟩ (by simp) rfl).2 _ rfl _ rfl
            rw [show f 15 = _ from hJ.vals 15 (hdep ⟨15, .guard⟩ (by simp) rfl).1 (.bool false) (by rw [hT]; rfl)] at kg
            rw [if_pos (wanted_of rfl rfl rfl kg)]
            intro K hK
            have q5 := hout 5 (outB_spec (by kernel_rfl))
            refine wp_mv _ rfl (hK _ _ ?_)
            rw [show a.eval (.tmp 5) = .int .i64 i from q5]
            exact hJ.plain (by decide) (by decide) (Ex.refl _) (fun x hx => by rw [hT] at hx; first | exact Option.some.inj hx | simpa using hx)
          · have kg := (hdep ⟨15, .guard⟩ (by simp) rfl).2 _ rfl _ rfl
            rw [show f 15 = _ from hJ.vals 15 (hdep ⟨15, .guard⟩ (by simp) rfl).1 (.bool false) (by rw [hT]; rfl)] at kg
            rw [if_pos (wanted_of rfl rfl rfl kg)]
            intro K hK
            have q31 := (hdep ⟨16, .data⟩ (by simp) rfl).2 _ rfl _ rfl
            rw [show f 16 = _ from hJ.vals 16 (hdep ⟨16, .data⟩ (by simp) rfl).1 (.pointer (some ⟨ga, 0, none⟩)) (by rw [hT]; rfl)] at q31
            rw [Array.getD_eq_getD_getElem?] at q31
            clear hsz hdep hout hlat
            go_simp
            exact hK _ _ (hJ.plain (by decide) (by decide) (Ex.refl _) (fun x hx => by rw [hT] at hx; first | exact Option.some.inj hx | simpa using hx))
          · have kg := (hdep ⟨15, .guard⟩ (by simp) rfl).2 _ rfl _ rfl
            rw [show f 15 = _ from hJ.vals 15 (hdep ⟨15, .guard⟩ (by simp) rfl).1 (.bool false) (by rw [hT]; rfl)] at kg
            rw [if_pos (wanted_of rfl rfl rfl kg)]
            intro K hK
            have q33 := (hdep ⟨18, .data⟩ (by simp) rfl).2 _ rfl _ rfl
            rw [show f 18 = _ from hJ.vals 18 (hdep ⟨18, .data⟩ (by simp) rfl).1 (.pointer (some ⟨ga, 0, none⟩)) (by rw [hT]; rfl)] at q33
            rw [Array.getD_eq_getD_getElem?] at q33
            clear hsz hdep hout hlat
            go_simp
            exact hK _ _ (hJ.plain (by decide) (by decide) (Ex.refl _) (fun x hx => by rw [hT] at hx; first | exact Option.some.inj hx | simpa using hx))
          · have kg := (hdep ⟨15, .guard⟩ (by simp) rfl).2 _ rfl _ rfl
            rw [show f 15 = _ from hJ.vals 15 (hdep ⟨15, .guard⟩ (by simp) rfl).1 (.bool false) (by rw [hT]; rfl)] at kg
            rw [if_pos (wanted_of rfl rfl rfl kg)]
            intro K hK
            have q34 := (hdep ⟨19, .data⟩ (by simp) rfl).2 _ rfl _ rfl
            rw [show f 19 = _ from hJ.vals 19 (hdep ⟨19, .data⟩ (by simp) rfl).1 (.pointer (some ⟨ga, 0, none⟩)) (by rw [hT]; rfl)] at q34
            have q32 := (hdep ⟨17, .data⟩ (by simp) rfl).2 _ rfl _ rfl
            rw [show f 17 = _ from hJ.vals 17 (hdep ⟨17, .data⟩ (by simp) rfl).1 (.int .i64 i) (by rw [hT]; rfl)] at q32
            rw [Array.getD_eq_getD_getElem?] at q34
            rw [Array.getD_eq_getD_getElem?] at q32
            clear hsz hdep hout hlat
            have z0 := Z0.out
            have z1 := Z1.out
            go_simp
            exact hK _ _ (hJ.plain (by decide) (by decide) (Ex.refl _) (fun x hx => by rw [hT] at hx; first | exact Option.some.inj hx | simpa using hx))
          · have kg := (hdep ⟨15, .guard⟩ (by simp) rfl).2 _ rfl _ rfl
            rw [show f 15 = _ from hJ.vals 15 (hdep ⟨15, .guard⟩ (by simp) rfl).1 (.bool false) (by rw [hT]; rfl)] at kg
            rw [if_pos (wanted_of rfl rfl rfl kg)]
            intro K hK
            have q35 := (hdep ⟨20, .data⟩ (by simp) rfl).2 _ rfl _ rfl
            rw [show f 20 = _ from hJ.vals 20 (hdep ⟨20, .data⟩ (by simp) rfl).1 (.pointer (some ⟨ga, i * 2, none⟩)) (by rw [hT]; rfl)] at q35
            rw [Array.getD_eq_getD_getElem?] at q35
            clear hsz hdep hout hlat
            have z0 := Z0.out
            have z1 := Z1.out
            go_simp
            exact hK _ _ (hJ.plain (by decide) (by decide) (Ex.refl _) (fun x hx => by rw [hT] at hx; first | exact Option.some.inj hx | simpa using hx))
          · have kg := (hdep ⟨15, .guard⟩ (by simp) rfl).2 _ rfl _ rfl
            rw [show f 15 = _ from hJ.vals 15 (hdep ⟨15, .guard⟩ (by simp) rfl).1 (.bool false) (by rw [hT]; rfl)] at kg
            rw [if_pos (wanted_of rfl rfl rfl kg)]
            intro K hK
            have q36 := (hdep ⟨21, .data⟩ (by simp) rfl).2 _ rfl _ rfl
            rw [show f 21 = _ from hJ.vals 21 (hdep ⟨21, .data⟩ (by simp) rfl).1 (.pointer (some ⟨ga, i * 2 + 1, none⟩)) (by rw [hT]; rfl)] at q36
            have f1 : w2.cell? ⟨ga, i * 2 + 1, none⟩ = some (.slice pa pn pc) := (hJ.ext.cell (p := ⟨ga, i * 2 + 1, none⟩) Lga.out).trans CA1.out
            rw [Array.getD_eq_getD_getElem?] at q36
            clear hsz hdep hout hlat
            go_simp
            exact hK _ _ (hJ.plain (by decide) (by decide) (Ex.refl _) (fun x hx => by rw [hT] at hx; first | exact Option.some.inj hx | simpa using hx))
          · have kg := (hdep ⟨15, .guard⟩ (by simp) rfl).2 _ rfl _ rfl
            rw [show f 15 = _ from hJ.vals 15 (hdep ⟨15, .guard⟩ (by simp) rfl).1 (.bool false) (by rw [hT]; rfl)] at kg
            rw [if_pos (wanted_of rfl rfl rfl kg)]
            intro K hK
            have q1 := hout 1 (outB_spec (by kernel_rfl))
            refine wp_mv _ rfl (hK _ _ ?_)
            rw [show a.eval (.tmp 1) = .pointer (some ⟨gb, 0, none⟩) from q1]
            exact hJ.plain (by decide) (by decide) (Ex.refl _) (fun x hx => by rw [hT] at hx; first | exact Option.some.inj hx | simpa using hx)
          · have kg := (hdep ⟨15, .guard⟩ (by simp) rfl).2 _ rfl _ rfl
            rw [show f 15 = _ from hJ.vals 15 (hdep ⟨15, .guard⟩ (by simp) rfl).1 (.bool false) (by rw [hT]; rfl)] at kg
            rw [if_pos (wanted_of rfl rfl rfl kg)]
            intro K hK
            have q5 := hout 5 (outB_spec (by kernel_rfl))
            refine wp_mv _ rfl (hK _ _ ?_)
            rw [show a.eval (.tmp 5) = .int .i64 i from q5]
            exact hJ.plain (by decide) (by decide) (Ex.refl _) (fun x hx => by rw [hT] at hx; first | exact Option.some.inj hx | simpa using hx)
          · have kg := (hdep ⟨15, .guard⟩ (by simp) rfl).2 _ rfl _ rfl
            rw [show f 15 = _ from hJ.vals 15 (hdep ⟨15, .guard⟩ (by simp) rfl).1 (.bool false) (by rw [hT]; rfl)] at kg
            rw [if_pos (wanted_of rfl rfl rfl kg)]
            intro K hK
            have q38 := (hdep ⟨23, .data⟩ (by simp) rfl).2 _ rfl _ rfl
            rw [show f 23 = _ from hJ.vals 23 (hdep ⟨23, .data⟩ (by simp) rfl).1 (.pointer (some ⟨gb, 0, none⟩)) (by rw [hT]; rfl)] at q38
            rw [Array.getD_eq_getD_getElem?] at q38
            clear hsz hdep hout hlat
            go_simp
            exact hK _ _ (hJ.plain (by decide) (by decide) (Ex.refl _) (fun x hx => by rw [hT] at hx; first | exact Option.some.inj hx | simpa using hx))
          · have kg := (hdep ⟨15, .guard⟩ (by simp) rfl).2 _ rfl _ rfl
            rw [show f 15 = _ from hJ.vals 15 (hdep ⟨15, .guard⟩ (by simp) rfl).1 (.bool false) (by rw [hT]; rfl)] at kg
            rw [if_pos (wanted_of rfl rfl rfl kg)]
            intro K hK
            have q40 := (hdep ⟨25, .data⟩ (by simp) rfl).2 _ rfl _ rfl
            rw [show f 25 = _ from hJ.vals 25 (hdep ⟨25, .data⟩ (by simp) rfl).1 (.pointer (some ⟨gb, 0, none⟩)) (by rw [hT]; rfl)] at q40
            rw [Array.getD_eq_getD_getElem?] at q40
            clear hsz hdep hout hlat
            go_simp
            exact hK _ _ (hJ.plain (by decide) (by decide) (Ex.refl _) (fun x hx => by rw [hT] at hx; first | exact Option.some.inj hx | simpa using hx))
          · have kg := (hdep ⟨15, .guard⟩ (by simp) rfl).2 _ rfl _ rfl
            rw [show f 15 = _ from hJ.vals 15 (hdep ⟨15, .guard⟩ (by simp) rfl).1 (.bool false) (by rw [hT]; rfl)] at kg
            rw [if_pos (wanted_of rfl rfl rfl kg)]
            intro K hK
            have q41 := (hdep ⟨26, .data⟩ (by simp) rfl).2 _ rfl _ rfl
            rw [show f 26 = _ from hJ.vals 26 (hdep ⟨26, .data⟩ (by simp) rfl).1 (.pointer (some ⟨gb, 0, none⟩)) (by rw [hT]; rfl)] at q41
            have q39 := (hdep ⟨24, .data⟩ (by simp) rfl).2 _ rfl _ rfl
            rw [show f 24 = _ from hJ.vals 24 (hdep ⟨24, .data⟩ (by simp) rfl).1 (.int .i64 i) (by rw [hT]; rfl)] at q39
            rw [Array.getD_eq_getD_getElem?] at q41
            rw [Array.getD_eq_getD_getElem?] at q39
            clear hsz hdep hout hlat
            have z0 := Z0.out
            have z1 := Z1.out
            go_simp
            exact hK _ _ (hJ.plain (by decide) (by decide) (Ex.refl _) (fun x hx => by rw [hT] at hx; first | exact Option.some.inj hx | simpa using hx))
          · have kg := (hdep ⟨15, .guard⟩ (by simp) rfl).2 _ rfl _ rfl
            rw [show f 15 = _ from hJ.vals 15 (hdep ⟨15, .guard⟩ (by simp) rfl).1 (.bool false) (by rw [hT]; rfl)] at kg
            rw [if_pos (wanted_of rfl rfl rfl kg)]
            intro K hK
            have q42 := (hdep ⟨27, .data⟩ (by simp) rfl).2 _ rfl _ rfl
            rw [show f 27 = _ from hJ.vals 27 (hdep ⟨27, .data⟩ (by simp) rfl).1 (.pointer (some ⟨gb, i * 2, none⟩)) (by rw [hT]; rfl)] at q42
            rw [Array.getD_eq_getD_getElem?] at q42
            clear hsz hdep hout hlat
            have z0 := Z0.out
            have z1 := Z1.out
            go_simp
            exact hK _ _ (hJ.plain (by decide) (by decide) (Ex.refl _) (fun x hx => by rw [hT] at hx; first | exact Option.some.inj hx | simpa using hx))
          · have kg := (hdep ⟨15, .guard⟩ (by simp) rfl).2 _ rfl _ rfl
            rw [show f 15 = _ from hJ.vals 15 (hdep ⟨15, .guard⟩ (by simp) rfl).1 (.bool false) (by rw [hT]; rfl)] at kg
            rw [if_pos (wanted_of rfl rfl rfl kg)]
            intro K hK
            have q43 := (hdep ⟨28, .data⟩ (by simp) rfl).2 _ rfl _ rfl
            rw [show f 28 = _ from hJ.vals 28 (hdep ⟨28, .data⟩ (by simp) rfl).1 (.pointer (some ⟨gb, i * 2 + 1, none⟩)) (by rw [hT]; rfl)] at q43
            have f1 : w2.cell? ⟨gb, i * 2 + 1, none⟩ = some (.slice qa qn qc) := (hJ.ext.cell (p := ⟨gb, i * 2 + 1, none⟩) Lgb.out).trans CB1.out
            rw [Array.getD_eq_getD_getElem?] at q43
            clear hsz hdep hout hlat
            go_simp
            exact hK _ _ (hJ.plain (by decide) (by decide) (Ex.refl _) (fun x hx => by rw [hT] at hx; first | exact Option.some.inj hx | simpa using hx))
          · have kg := (hdep ⟨15, .guard⟩ (by simp) rfl).2 _ rfl _ rfl
            rw [show f 15 = _ from hJ.vals 15 (hdep ⟨15, .guard⟩ (by simp) rfl).1 (.bool false) (by rw [hT]; rfl)] at kg
            rw [if_pos (wanted_of rfl rfl rfl kg)]
            intro K hK
            have q37 := (hdep ⟨22, .data⟩ (by simp) rfl).2 _ rfl _ rfl
            rw [show f 22 = _ from hJ.vals 22 (hdep ⟨22, .data⟩ (by simp) rfl).1 (.slice pa pn pc) (by rw [hT]; rfl)] at q37
            have q44 := (hdep ⟨29, .data⟩ (by simp) rfl).2 _ rfl _ rfl
            rw [show f 29 = _ from hJ.vals 29 (hdep ⟨29, .data⟩ (by simp) rfl).1 (.slice qa qn qc) (by rw [hT]; rfl)] at q44
            rw [Array.getD_eq_getD_getElem?] at q37
            rw [Array.getD_eq_getD_getElem?] at q44
            have cm := Lib.hid (EQ.out w2 hJ.ext)
            clear hsz hdep hout hlat
            go_simp
            refine cm.out.mono ?_
            rintro e w3 ⟨rfl, rfl⟩
            exact hK _ _ (hJ.plain (by decide) (by decide) (Ex.refl _) (fun x hx => by rw [hT] at hx; first | exact Option.some.inj hx | simpa using hx))
          · have kg := (hdep ⟨15, .guard⟩ (by simp) rfl).2 _ rfl _ rfl
            rw [show f 15 = _ from hJ.vals 15 (hdep ⟨15, .guard⟩ (by simp) rfl).1 (.bool false) (by rw [hT]; rfl)] at kg
            rw [if_pos (wanted_of rfl rfl rfl kg)]
            intro K hK
            have q45 := (hdep ⟨30, .data⟩ (by simp) rfl).2 _ rfl _ rfl
            rw [show f 30 = _ from hJ.vals 30 (hdep ⟨30, .data⟩ (by simp) rfl).1 (.bool eqb) (by rw [hT]; rfl)] at q45
            rw [Array.getD_eq_getD_getElem?] at q45
            clear hsz hdep hout hlat
            go_simp
            exact hK _ _ (hJ.plain (by decide) (by decide) (Ex.refl _) (fun x hx => by rw [hT] at hx; first | exact Option.some.inj hx | simpa using hx))
          · rw [if_pos (by rfl)]
            intro K hK
            have q30 := (hdep ⟨15, .data⟩ (by simp) rfl).2 _ rfl _ rfl
            rw [show f 15 = _ from hJ.vals 15 (hdep ⟨15, .data⟩ (by simp) rfl).1 (.bool false) (by rw [hT]; rfl)] at q30
            have q46 := (hdep ⟨31, .data⟩ (by simp) rfl).2 _ rfl _ rfl
            rw [show f 31 = _ from hJ.vals 31 (hdep ⟨31, .data⟩ (by simp) rfl).1 (.bool (!eqb)) (by rw [hT]; rfl)] at q46
            rw [Array.getD_eq_getD_getElem?] at q30
            rw [Array.getD_eq_getD_getElem?] at q46
            clear hsz hdep hout hlat
            go_simp
            exact hK _ _ (hJ.plain (by decide) (by decide) (Ex.refl _) (fun x hx => by rw [hT] at hx; first | exact Option.some.inj hx | simpa using hx))
        · intro listed f w2 hall hJ
          have f0 : f 0 = .pointer (some ⟨ga, 0, none⟩) := hJ.vals 0 (hall 0 (by simp)) _ (by rw [hT]; rfl)
          have f1 : f 1 = .int .i64 i := hJ.vals 1 (hall 1 (by simp)) _ (by rw [hT]; rfl)
          have f2 : f 2 = .pointer (some ⟨ga, 0, none⟩) := hJ.vals 2 (hall 2 (by simp)) _ (by rw [hT]; rfl)
          have f3 : f 3 = .pointer (some ⟨ga, 0, none⟩) := hJ.vals 3 (hall 3 (by simp)) _ (by rw [hT]; rfl)
          have f4 : f 4 = .pointer (some ⟨ga, i * 2, none⟩) := hJ.vals 4 (hall 4 (by simp)) _ (by rw [hT]; rfl)
          have f5 : f 5 = .pointer (some ⟨ga, i * 2, none⟩) := hJ.vals 5 (hall 5 (by simp)) _ (by rw [hT]; rfl)
          have f6 : f 6 = .bool false := hJ.vals 6 (hall 6 (by simp)) _ (by rw [hT]; rfl)
          have f7 : f 7 = .pointer (some ⟨gb, 0, none⟩) := hJ.vals 7 (hall 7 (by simp)) _ (by rw [hT]; rfl)
          have f8 : f 8 = .int .i64 i := hJ.vals 8 (hall 8 (by simp)) _ (by rw [hT]; rfl)
          have f9 : f 9 = .pointer (some ⟨gb, 0, none⟩) := hJ.vals 9 (hall 9 (by simp)) _ (by rw [hT]; rfl)
          have f10 : f 10 = .pointer (some ⟨gb, 0, none⟩) := hJ.vals 10 (hall 10 (by simp)) _ (by rw [hT]; rfl)
          have f11 : f 11 = .pointer (some ⟨gb, i * 2, none⟩) := hJ.vals 11 (hall 11 (by simp)) _ (by rw [hT]; rfl)
          have f12 : f 12 = .pointer (some ⟨gb, i * 2, none⟩) := hJ.vals 12 (hall 12 (by simp)) _ (by rw [hT]; rfl)
          have f13 : f 13 = .bool false := hJ.vals 13 (hall 13 (by simp)) _ (by rw [hT]; rfl)
          have f14 : f 14 = .bool false := hJ.vals 14 (hall 14 (by simp)) _ (by rw [hT]; rfl)
          have f15 : f 15 = .bool false := hJ.vals 15 (hall 15 (by simp)) _ (by rw [hT]; rfl)
          have f16 : f 16 = .pointer (some ⟨ga, 0, none⟩) := hJ.vals 16 (hall 16 (by simp)) _ (by rw [hT]; rfl)
          have f17 : f 17 = .int .i64 i := hJ.vals 17 (hall 17 (by simp)) _ (by rw [hT]; rfl)
          have f18 : f 18 = .pointer (some ⟨ga, 0, none⟩) := hJ.vals 18 (hall 18 (by simp)) _ (by rw [hT]; rfl)
          have f19 : f 19 = .pointer (some ⟨ga, 0, none⟩) := hJ.vals 19 (hall 19 (by simp)) _ (by rw [hT]; rfl)
          have f20 : f 20 = .pointer (some ⟨ga, i * 2, none⟩) := hJ.vals 20 (hall 20 (by simp)) _ (by rw [hT]; rfl)
          have f21 : f 21 = .pointer (some ⟨ga, i * 2 + 1, none⟩) := hJ.vals 21 (hall 21 (by simp)) _ (by rw [hT]; rfl)
          have f22 : f 22 = .slice pa pn pc := hJ.vals 22 (hall 22 (by simp)) _ (by rw [hT]; rfl)
          have f23 : f 23 = .pointer (some ⟨gb, 0, none⟩) := hJ.vals 23 (hall 23 (by simp)) _ (by rw [hT]; rfl)
          have f24 : f 24 = .int .i64 i := hJ.vals 24 (hall 24 (by simp)) _ (by rw [hT]; rfl)
          have f25 : f 25 = .pointer (some ⟨gb, 0, none⟩) := hJ.vals 25 (hall 25 (by simp)) _ (by rw [hT]; rfl)
          have f26 : f 26 = .pointer (some ⟨gb, 0, none⟩) := hJ.vals 26 (hall 26 (by simp)) _ (by rw [hT]; rfl)
          have f27 : f 27 = .pointer (some ⟨gb, i * 2, none⟩) := hJ.vals 27 (hall 27 (by simp)) _ (by rw [hT]; rfl)
          have f28 : f 28 = .pointer (some ⟨gb, i * 2 + 1, none⟩) := hJ.vals 28 (hall 28 (by simp)) _ (by rw [hT]; rfl)
          have f29 : f 29 = .slice qa qn qc := hJ.vals 29 (hall 29 (by simp)) _ (by rw [hT]; rfl)
          have f30 : f 30 = .bool eqb := hJ.vals 30 (hall 30 (by simp)) _ (by rw [hT]; rfl)
          have f31 : f 31 = .bool (!eqb) := hJ.vals 31 (hall 31 (by simp)) _ (by rw [hT]; rfl)
          have f32 : f 32 = .bool (!eqb) := hJ.vals 32 (hall 32 (by simp)) _ (by rw [hT]; rfl)
          have xw := hJ.ext
          simp only [putAll, Act.put, List.setIfInBounds_toArray, List.set_cons_zero, List.set_cons_succ, Nat.zero_add, Nat.reduceAdd]
          rw [f0, f1, f2, f3, f4, f5, f6, f7, f8, f9, f10, f11, f12, f13, f14, f15, f16, f17, f18, f19, f20, f21, f22, f23, f24, f25, f26, f27, f28, f29, f30, f31, f32]
          clear f0 f1 f2 f3 f4 f5 f6 f7 f8 f9 f10 f11 f12 f13 f14 f15 f16 f17 f18 f19 f20 f21 f22 f23 f24 f25 f26 f27 f28 f29 f30 f31 f32 hJ hall hT
          cases heq : eqb
          · have NE := Lib.hid (show decide (ca.now = cb.now) = false by
              refine decide_eq_false (fun h => ?_)
              have h1 := HXA.out
              rw [h, HXB.out] at h1
              have h2 := congrArg Prod.snd (Option.some.inj h1)
              have h3 := HEQ.out
              rw [heq] at h3
              exact (of_decide_eq_false h3.symm) h2.symm)
            clear heq
            go_wp2_with fail
            go_ret
            exact ⟨by rw [NE.out]; rfl, Ex.trans bw.out xw⟩
          · have h3 := HEQ.out
            rw [heq] at h3
            have TK := Lib.hid (take_eq _ _ i _ _ HXA.out HXB.out tk.out (by rw [of_decide_eq_true h3.symm]))
            have da2 := Lib.hid (DK.ext da.out xw)
            have db2 := Lib.hid (DK.ext db.out xw)
            have bw2 := Lib.hid (Ex.trans bw.out xw)
            clear heq h3 xw
            go_wp2_with fail
            go_roundw
            case rel => exact ⟨i + 1, by omega, by go_num, TK, da2, db2, bw2⟩
            case measure => simp [intOf]; omega
      · -- false true
        have NE := Lib.hid (show decide (ca.now = cb.now) = false by
          refine decide_eq_false (fun h => ?_)
          have h1 := HXA.out
          rw [h, HXB.out] at h1
          have := congrArg Prod.fst (Option.some.inj h1)
          cases this)
        go_wp2_with fail
        obtain ⟨T, hT⟩ : ∃ T : List (Option Value), T = [some (.pointer (some ⟨ga, 0, none⟩)), some (.int .i64 i), some (.pointer (some ⟨ga, 0, none⟩)), some (.pointer (some ⟨ga, 0, none⟩)), some (.pointer (some ⟨ga, i * 2, none⟩)), some (.pointer (some ⟨ga, i * 2, none⟩)), some (.bool false), some (.pointer (some ⟨gb, 0, none⟩)), some (.int .i64 i), some (.pointer (some ⟨gb, 0, none⟩)), some (.pointer (some ⟨gb, 0, none⟩)), some (.pointer (some ⟨gb, i * 2, none⟩)), some (.pointer (some ⟨gb, i * 2, none⟩)), some (.bool true), some (.bool true), some (.bool true), none, none, none, none, none, none, none, none, none, none, none, none, none, none, none, none, some (.bool true)] := ⟨_, rfl⟩
        refine wp_region_gen (JL wr T 1000 1001 0 #[] #[]) (by kernel_rfl) (by kernel_rfl) (by kernel_rfl) (fitB_spec (by kernel_rfl)) (fun listed f h => JL.start _ listed f h) ?_ ?_
        · intro i o ho
          have hi : i < 33 := (Array.getElem?_eq_some_iff.1 ho).1
          have hi' : i = 0 ∨ i = 1 ∨ i = 2 ∨ i = 3 ∨ i = 4 ∨ i = 5 ∨ i = 6 ∨ i = 7 ∨ i = 8 ∨ i = 9 ∨ i = 10 ∨ i = 11 ∨ i = 12 ∨ i = 13 ∨ i = 14 ∨ i = 15 ∨ i = 16 ∨ i = 17 ∨ i = 18 ∨ i = 19 ∨ i = 20 ∨ i = 21 ∨ i = 22 ∨ i = 23 ∨ i = 24 ∨ i = 25 ∨ i = 26 ∨ i = 27 ∨ i = 28 ∨ i = 29 ∨ i = 30 ∨ i = 31 ∨ i = 32 := by omega
          clear hi
          rcases hi' with rfl | rfl | rfl | rfl | rfl | rfl | rfl | rfl | rfl | rfl | rfl | rfl | rfl | rfl | rfl | rfl | rfl | rfl | rfl | rfl | rfl | rfl | rfl | rfl | rfl | rfl | rfl | rfl | rfl | rfl | rfl | rfl | rfl
          all_goals (simp only [List.getElem?_toArray, List.getElem?_cons_zero, List.getElem?_cons_succ, Option.some.injEq] at ho; subst ho; intro listed f a w2 hJ hsz hls hun hdep hout hlat)
          · rw [if_pos (by rfl)]
            intro K hK
            have q0 := hout 0 (outB_spec (by kernel_rfl))
            refine wp_mv _ rfl (hK _ _ ?_)
            rw [show a.eval (.tmp 0) = .pointer (some ⟨ga, 0, none⟩) from q0]
            exact hJ.plain (by decide) (by decide) (Ex.refl _) (fun x hx => by rw [hT] at hx; first | exact Option.some.inj hx | simpa using hx)
          · rw [if_pos (by rfl)]
            intro K hK
            have q5 := hout 5 (outB_spec (by kernel_rfl))
            refine wp_mv _ rfl (hK _ _ ?_)
            rw [show a.eval (.tmp 5) = .int .i64 i from q5]
            exact hJ.plain (by decide) (by decide) (Ex.refl _) (fun x hx => by rw [hT] at hx; first | exact Option.some.inj hx | simpa using hx)
          · rw [if_pos (by rfl)]
            intro K hK
            have q15 := (hdep ⟨0, .data⟩ (by simp) rfl).2 _ rfl _ rfl
            rw [show f 0 = _ from hJ.vals 0 (hdep ⟨0, .data⟩ (by simp) rfl).1 (.pointer (some ⟨ga, 0, none⟩)) (by rw [hT]; rfl)] at q15
            rw [Array.getD_eq_getD_getElem?] at q15
            clear hsz hdep hout hlat
            go_simp
            exact hK _ _ (hJ.plain (by decide) (by decide) (Ex.refl _) (fun x hx => by rw [hT] at hx; first | exact Option.some.inj hx | simpa using hx))
          · rw [if_pos (by rfl)]
            intro K hK
            have q17 := (hdep ⟨2, .data⟩ (by simp) rfl).2 _ rfl _ rfl
            rw [show f 2 = _ from hJ.vals 2 (hdep ⟨2, .data⟩ (by simp) rfl).1 (.pointer (some ⟨ga, 0, none⟩)) (by rw [hT]; rfl)] at q17
            rw [Array.getD_eq_getD_getElem?] at q17
            clear hsz hdep hout hlat
            go_simp
            exact hK _ _ (hJ.plain (by decide) (by decide) (Ex.refl _) (fun x hx => by rw [hT] at hx; first | exact Option.some.inj hx | simpa using hx))
          · rw [if_pos (by rfl)]
            intro K hK
            have q18 := (hdep ⟨3, .data⟩ (by simp) rfl).2 _ rfl _ rfl
            rw [show f 3 = _ from hJ.vals 3 (hdep ⟨3, .data⟩ (by simp) rfl).1 (.pointer (some ⟨ga, 0, none⟩)) (by rw [hT]; rfl)] at q18
            have q16 := (hdep ⟨1, .data⟩ (by simp) rfl).2 _ rfl _ rfl
            rw [show f 1 = _ from hJ.vals 1 (hdep ⟨1, .data⟩ (by simp) rfl).1 (.int .i64 i) (by rw [hT]; rfl)] at q16
            rw [Array.getD_eq_getD_getElem?] at q18
            rw [Array.getD_eq_getD_getElem?] at q16
            clear hsz hdep hout hlat
            have z0 := Z0.out
            have z1 := Z1.out
            go_simp
            exact hK _ _ (hJ.plain (by decide) (by decide) (Ex.refl _) (fun x hx => by rw [hT] at hx; first | exact Option.some.inj hx | simpa using hx))
          · rw [if_pos (by rfl)]
            intro K hK
            have q19 := (hdep ⟨4, .data⟩ (by simp) rfl).2 _ rfl _ rfl
            rw [show f 4 = _ from hJ.vals 4 (hdep ⟨4, .data⟩ (by simp) rfl).1 (.pointer (some ⟨ga, i * 2, none⟩)) (by rw [hT]; rfl)] at q19
            rw [Array.getD_eq_getD_getElem?] at q19
            clear hsz hdep hout hlat
            have z0 := Z0.out
            have z1 := Z1.out
            go_simp
            exact hK _ _ (hJ.plain (by decide) (by decide) (Ex.refl _) (fun x hx => by rw [hT] at hx; first | exact Option.some.inj hx | simpa using hx))
          · rw [if_pos (by rfl)]
            intro K hK
            have q20 := (hdep ⟨5, .data⟩ (by simp) rfl).2 _ rfl _ rfl
            rw [show f 5 = _ from hJ.vals 5 (hdep ⟨5, .data⟩ (by simp) rfl).1 (.pointer (some ⟨ga, i * 2, none⟩)) (by rw [hT]; rfl)] at q20
            have f1 : w2.cell? ⟨ga, i * 2, none⟩ = some (.bool false) := (hJ.ext.cell (p := ⟨ga, i * 2, none⟩) Lga.out).trans CA0.out
            rw [Array.getD_eq_getD_getElem?] at q20
            clear hsz hdep hout hlat
            go_simp
            exact hK _ _ (hJ.plain (by decide) (by decide) (Ex.refl _) (fun x hx => by rw [hT] at hx; first | exact Option.some.inj hx | simpa using hx))
          · rw [if_pos (by rfl)]
            intro K hK
            have q1 := hout 1 (outB_spec (by kernel_rfl))
            refine wp_mv _ rfl (hK _ _ ?_)
            rw [show a.eval (.tmp 1) = .pointer (some ⟨gb, 0, none⟩) from q1]
            exact hJ.plain (by decide) (by decide) (Ex.refl _) (fun x hx => by rw [hT] at hx; first | exact Option.some.inj hx | simpa using hx)
          · rw [if_pos (by rfl)]
            intro K hK
            have q5 := hout 5 (outB_spec (by kernel_rfl))
            refine wp_mv _ rfl (hK _ _ ?_)
            rw [show a.eval (.tmp 5) = .int .i64 i from q5]
            exact hJ.plain (by decide) (by decide) (Ex.refl _) (fun x hx => by rw [hT] at hx; first | exact Option.some.inj hx | simpa using hx)
          · rw [if_pos (by rfl)]
            intro K hK
            have q22 := (hdep ⟨7, .data⟩ (by simp) rfl).2 _ rfl _ rfl
            rw [show f 7 = _ from hJ.vals 7 (hdep ⟨7, .data⟩ (by simp) rfl).1 (.pointer (some ⟨gb, 0, none⟩)) (by rw [hT]; rfl)] at q22
            rw [Array.getD_eq_getD_getElem?] at q22
            clear hsz hdep hout hlat
            go_simp
            exact hK _ _ (hJ.plain (by decide) (by decide) (Ex.refl _) (fun x hx => by rw [hT] at hx; first | exact Option.some.inj hx | simpa using hx))
          · rw [if_pos (by rfl)]
            intro K hK
            have q24 := (hdep ⟨9, .data⟩ (by simp) rfl).2 _ rfl _ rfl
            rw [show f 9 = _ from hJ.vals 9 (hdep ⟨9, .data⟩ (by simp) rfl).1 (.pointer (some ⟨gb, 0, none⟩)) (by rw [hT]; rfl)] at q24
            rw [Array.getD_eq_getD_getElem?] at q24
            clear hsz hdep hout hlat
            go_simp
            exact hK _ _ (hJ.plain (by decide) (by decide) (Ex.refl _) (fun x hx => by rw [hT] at hx; first | exact Option.some.inj hx | simpa using hx))
          · rw [if_pos (by rfl)]
            intro K hK
            have q25 := (hdep ⟨10, .data⟩ (by simp) rfl).2 _ rfl _ rfl
            rw [show f 10 = _ from hJ.vals 10 (hdep ⟨10, .data⟩ (by simp) rfl).1 (.pointer (some ⟨gb, 0, none⟩)) (by rw [hT]; rfl)] at q25
            have q23 := (hdep ⟨8, .data⟩ (by simp) rfl).2 _ rfl _ rfl
            rw [show f 8 = _ from hJ.vals 8 (hdep ⟨8, .data⟩ (by simp) rfl).1 (.int .i64 i) (by rw [hT]; rfl)] at q23
            rw [Array.getD_eq_getD_getElem?] at q25
            rw [Array.getD_eq_getD_getElem?] at q23
            clear hsz hdep hout hlat
            have z0 := Z0.out
            have z1 := Z1.out
            go_simp
            exact hK _ _ (hJ.plain (by decide) (by decide) (Ex.refl _) (fun x hx => by rw [hT] at hx; first | exact Option.some.inj hx | simpa using hx))
          · rw [if_pos (by rfl)]
            intro K hK
            have q26 := (hdep ⟨11, .data⟩ (by simp) rfl).2 _ rfl _ rfl
            rw [show f 11 = _ from hJ.vals 11 (hdep ⟨11, .data⟩ (by simp) rfl).1 (.pointer (some ⟨gb, i * 2, none⟩)) (by rw [hT]; rfl)] at q26
            rw [Array.getD_eq_getD_getElem?] at q26
            clear hsz hdep hout hlat
            have z0 := Z0.out
            have z1 := Z1.out
            go_simp
            exact hK _ _ (hJ.plain (by decide) (by decide) (Ex.refl _) (fun x hx => by rw [hT] at hx; first | exact Option.some.inj hx | simpa using hx))
          · rw [if_pos (by rfl)]
            intro K hK
            have q27 := (hdep ⟨12, .data⟩ (by simp) rfl).2 _ rfl _ rfl
            rw [show f 12 = _ from hJ.vals 12 (hdep ⟨12, .data⟩ (by simp) rfl).1 (.pointer (some ⟨gb, i * 2, none⟩)) (by rw [hT]; rfl)] at q27
            have f1 : w2.cell? ⟨gb, i * 2, none⟩ = some (.bool true) := (hJ.ext.cell (p := ⟨gb, i * 2, none⟩) Lgb.out).trans CB0.out
            rw [Array.getD_eq_getD_getElem?] at q27
            clear hsz hdep hout hlat
            go_simp
            exact hK _ _ (hJ.plain (by decide) (by decide) (Ex.refl _) (fun x hx => by rw [hT] at hx; first | exact Option.some.inj hx | simpa using hx))
          · rw [if_pos (by rfl)]
            intro K hK
            have q21 := (hdep ⟨6, .data⟩ (by simp) rfl).2 _ rfl _ rfl
            rw [show f 6 = _ from hJ.vals 6 (hdep ⟨6, .data⟩ (by simp) rfl).1 (.bool false) (by rw [hT]; rfl)] at q21
            have q28 := (hdep ⟨13, .data⟩ (by simp) rfl).2 _ rfl _ rfl
            rw [show f 13 = _ from hJ.vals 13 (hdep ⟨13, .data⟩ (by simp) rfl).1 (.bool true) (by rw [hT]; rfl)] at q28
            rw [Array.getD_eq_getD_getElem?] at q21
            rw [Array.getD_eq_getD_getElem?] at q28
            clear hsz hdep hout hlat
            go_simp
            exact hK _ _ (hJ.plain (by decide) (by decide) (Ex.refl _) (fun x hx => by rw [hT] at hx; first | exact Option.some.inj hx | simpa using hx))
          · rw [if_pos (by rfl)]
            intro K hK
            have q29 := (hdep ⟨14, .data⟩ (by simp) rfl).2 _ rfl _ rfl
            rw [show f 14 = _ from hJ.vals 14 (hdep ⟨14, .data⟩ (by simp) rfl).1 (.bool true) (by rw [hT]; rfl)] at q29
            refine wp_mv _ rfl (hK _ _ ?_)
            rw [show a.eval (.tmp 29) = .bool true from q29]
            exact hJ.plain (by decide) (by decide) (Ex.refl _) (fun x hx => by rw [hT] at hx; first | exact Option.some.inj hx | simpa using hx)
          · have kg := (hdep ⟨15, .guard⟩ (by simp) rfl).2 _ rfl _ rfl
            rw [show f 15 = _ from hJ.vals 15 (hdep ⟨15, .guard⟩ (by simp) rfl).1 (.bool true) (by rw [hT]; rfl)] at kg
            rw [if_neg (not_wanted rfl rfl rfl kg (by decide))]
            exact hJ.plain (by decide) (by decide) (Ex.refl _) (fun x hx => by rw [hT] at hx; change none = some x at hx; cases hx)
          · have kg := (hdep ⟨15, .guard⟩ (by simp) rfl).2 _ rfl _ rfl
            rw [show f 15 = _ from hJ.vals 15 (hdep ⟨15, .guard⟩ (by simp) rfl).1 (.bool true) (by rw [hT]; rfl)] at kg
            rw [if_neg (not_wanted rfl rfl rfl kg (by decide))]
            exact hJ.plain (by decide) (by decide) (Ex.refl _) (fun x hx => by rw [hT] at hx; change none = some x at hx; cases hx)
          · have kg := (hdep ⟨15, .guard⟩ (by simp) rfl).2 _ rfl _ rfl
            rw [show f 15 = _ from hJ.vals 15 (hdep ⟨15, .guard⟩ (by simp) rfl).1 (.bool true) (by rw [hT]; rfl)] at kg
            rw [if_neg (not_wanted rfl rfl rfl kg (by decide))]
            exact hJ.plain (by decide) (by decide) (Ex.refl _) (fun x hx => by rw [hT] at hx; change none = some x at hx; cases hx)
          · have kg := (hdep ⟨15, .guard⟩ (by simp) rfl).2 _ rfl _ rfl
            rw [show f 15 = _ from hJ.vals 15 (hdep ⟨15, .guard⟩ (by simp) rfl).1 (.bool true) (by rw [hT]; rfl)] at kg
            rw [if_neg (not_wanted rfl rfl rfl kg (by decide))]
            exact hJ.plain (by decide) (by decide) (Ex.refl _) (fun x hx => by rw [hT] at hx; change none = some x at hx; cases hx)
          · have kg := (hdep ⟨15, .guard⟩ (by simp) rfl).2 _ rfl _ rfl
            rw [show f 15 = _ from hJ.vals 15 (hdep ⟨15, .guard⟩ (by simp) rfl).1 (.bool true) (by rw [hT]; rfl)] at kg
            rw [if_neg (not_wanted rfl rfl rfl kg (by decide))]
            exact hJ.plain (by decide) (by decide) (Ex.refl _) (fun x hx => by rw [hT] at hx; change none = some x at hx; cases hx)
          · have kg := (hdep ⟨15, .guard⟩ (by simp) rfl).2 _ rfl _ rfl
            rw [show f 15 = _ from hJ.vals 15 (hdep ⟨15, .guard⟩ (by simp) rfl).1 (.bool true) (by rw [hT]; rfl)] at kg
            rw [if_neg (not_wanted rfl rfl rfl kg (by decide))]
            exact hJ.plain (by decide) (by decide) (Ex.refl _) (fun x hx => by rw [hT] at hx; change none = some x at hx; cases hx)
          · have kg := (hdep ⟨15, .guard⟩ (by simp) rfl).2 _ rfl _ rfl
            rw [show f 15 = _ from hJ.vals 15 (hdep ⟨15, .guard⟩ (by simp) rfl).1 (.bool true) (by rw [hT]; rfl)] at kg
            rw [if_neg (not_wanted rfl rfl rfl kg (by decide))]
            exact hJ.plain (by decide) (by decide) (Ex.refl _) (fun x hx => by rw [hT] at hx; change none = some x at hx; cases hx)
          · have kg := (hdep ⟨15, .guard⟩ (by simp) rfl).2 _ rfl _ rfl
            rw [show f 15 = _ from hJ.vals 15 (hdep ⟨15, .guard⟩ (by simp) rfl).1 (.bool true) (by rw [hT]; rfl)] at kg
            rw [if_neg (not_wanted rfl rfl rfl kg (by decide))]
            exact hJ.plain (by decide) (by decide) (Ex.refl _) (fun x hx => by rw [hT] at hx; change none = some x at hx; cases hx)
          · have kg := (hdep ⟨15, .guard⟩ (by simp) rfl).2 _ rfl _ rfl
            rw [show f 15 = _ from hJ.vals 15 (hdep ⟨15, .guard⟩ (by simp) rfl).1 (.bool true) (by rw [hT]; rfl)] at kg
            rw [if_neg (not_wanted rfl rfl rfl kg (by decide))]
            exact hJ.plain (by decide) (by decide) (Ex.refl _) (fun x hx => by rw [hT] at hx; change none = some x at hx; cases hx)
          · have kg := (hdep ⟨15, .guard⟩ (by simp) rfl).2 _ rfl _ rfl
            rw [show f 15 = _ from hJ.vals 15 (hdep ⟨15, .guard⟩ (by simp) rfl).1 (.bool true) (by rw [hT]; rfl)] at kg
            rw [if_neg (not_wanted rfl rfl rfl kg (by decide))]
            exact hJ.plain (by decide) (by decide) (Ex.refl _) (fun x hx => by rw [hT] at hx; change none = some x at hx; cases hx)
          · have kg := (hdep ⟨15, .guard⟩ (by simp) rfl).2 _ rfl _ rfl
            rw [show f 15 = _ from hJ.vals 15 (hdep ⟨15, .guard⟩ (by simp) rfl).1 (.bool true) (by rw [hT]; rfl)] at kg
            rw [if_neg (not_wanted rfl rfl rfl kg (by decide))]
            exact hJ.plain (by decide) (by decide) (Ex.refl _) (fun x hx => by rw [hT] at hx; change none = some x at hx; cases hx)
          · have kg := (hdep ⟨15, .guard⟩ (by simp) rfl).2 _ rfl _ rfl
            rw [show f 15 = _ from hJ.vals 15 (hdep ⟨15, .guard⟩ (by simp) rfl).1 (.bool true) (by rw [hT]; rfl)] at kg
            rw [if_neg (not_wanted rfl rfl rfl kg (by decide))]
            exact hJ.plain (by decide) (by decide) (Ex.refl _) (fun x hx => by rw [hT] at hx; change none = some x at hx; cases hx)
          · have kg := (hdep ⟨15, .guard⟩ (by simp) rfl).2 _ rfl _ rfl
            rw [show f 15 = _ from hJ.vals 15 (hdep ⟨15, .guard⟩ (by simp) rfl).1 (.bool true) (by rw [hT]; rfl)] at kg
            rw [if_neg (not_wanted rfl rfl rfl kg (by decide))]
            exact hJ.plain (by decide) (by decide) (Ex.refl _) (fun x hx => by rw [hT] at hx; change none = some x at hx; cases hx)
          · have kg := (hdep ⟨15, .guard⟩ (by simp) rfl).2 _ rfl _ rfl
            rw [show f 15 = _ from hJ.vals 15 (hdep ⟨15, .guard⟩ (by simp) rfl).1 (.bool true) (by rw [hT]; rfl)] at kg
            rw [if_neg (not_wanted rfl rfl rfl kg (by decide))]
            exact hJ.plain (by decide) (by decide) (Ex.refl _) (fun x hx => by rw [hT] at hx; change none = some x at hx; cases hx)
          · have kg := (hdep ⟨15, .guard⟩ (by simp) rfl).2 _ rfl _ rfl
            rw [show f 15 = _ from hJ.vals 15 (hdep ⟨15, .guard⟩ (by simp) rfl).1 (.bool true) (by rw [hT]; rfl)] at kg
            rw [if_neg (not_wanted rfl rfl rfl kg (by decide))]
            exact hJ.plain (by decide) (by decide) (Ex.refl _) (fun x hx => by rw [hT] at hx; change none = some x at hx; cases hx)
          · have kg := (hdep ⟨15, .guard⟩ (by simp) rfl).2 _ rfl _ rfl
            rw [show f 15 = _ from hJ.vals 15 (hdep ⟨15, .guard⟩ (by simp) rfl).1 (.bool true) (by rw [hT]; rfl)] at kg
            rw [if_neg (not_wanted rfl rfl rfl kg (by decide))]
            exact hJ.plain (by decide) (by decide) (Ex.refl _) (fun x hx => by rw [hT] at hx; change none = some x at hx; cases hx)
          · rw [if_pos (by rfl)]
            intro K hK
            have q30 := (hdep ⟨15, .data⟩ (by simp) rfl).2 _ rfl _ rfl
            rw [show f 15 = _ from hJ.vals 15 (hdep ⟨15, .data⟩ (by simp) rfl).1 (.bool true) (by rw [hT]; rfl)] at q30
            have q46 := (hdep ⟨31, .data⟩ (by simp) rfl).2 _ rfl _ rfl
            rw [Array.getD_eq_getD_getElem?] at q30
            rw [Array.getD_eq_getD_getElem?] at q46
            clear hsz hdep hout hlat
            go_simp
            exact hK _ _ (hJ.plain (by decide) (by decide) (Ex.refl _) (fun x hx => by rw [hT] at hx; first | exact Option.some.inj hx | simpa using hx))
        · intro listed f w2 hall hJ
          have f0 : f 0 = .pointer (some ⟨ga, 0, none⟩) := hJ.vals 0 (hall 0 (by simp)) _ (by rw [hT]; rfl)
          have f1 : f 1 = .int .i64 i := hJ.vals 1 (hall 1 (by simp)) _ (by rw [hT]; rfl)
          have f2 : f 2 = .pointer (some ⟨ga, 0, none⟩) := hJ.vals 2 (hall 2 (by simp)) _ (by rw [hT]; rfl)
          have f3 : f 3 = .pointer (some ⟨ga, 0, none⟩) := hJ.vals 3 (hall 3 (by simp)) _ (by rw [hT]; rfl)
          have f4 : f 4 = .pointer (some ⟨ga, i * 2, none⟩) := hJ.vals 4 (hall 4 (by simp)) _ (by rw [hT]; rfl)
          have f5 : f 5 = .pointer (some ⟨ga, i * 2, none⟩) := hJ.vals 5 (hall 5 (by simp)) _ (by rw [hT]; rfl)
          have f6 : f 6 = .bool false := hJ.vals 6 (hall 6 (by simp)) _ (by rw [hT]; rfl)
          have f7 : f 7 = .pointer (some ⟨gb, 0, none⟩) := hJ.vals 7 (hall 7 (by simp)) _ (by rw [hT]; rfl)
          have f8 : f 8 = .int .i64 i := hJ.vals 8 (hall 8 (by simp)) _ (by rw [hT]; rfl)
          have f9 : f 9 = .pointer (some ⟨gb, 0, none⟩) := hJ.vals 9 (hall 9 (by simp)) _ (by rw [hT]; rfl)
          have f10 : f 10 = .pointer (some ⟨gb, 0, none⟩) := hJ.vals 10 (hall 10 (by simp)) _ (by rw [hT]; rfl)
          have f11 : f 11 = .pointer (some ⟨gb, i * 2, none⟩) := hJ.vals 11 (hall 11 (by simp)) _ (by rw [hT]; rfl)
          have f12 : f 12 = .pointer (some ⟨gb, i * 2, none⟩) := hJ.vals 12 (hall 12 (by simp)) _ (by rw [hT]; rfl)
          have f13 : f 13 = .bool true := hJ.vals 13 (hall 13 (by simp)) _ (by rw [hT]; rfl)
          have f14 : f 14 = .bool true := hJ.vals 14 (hall 14 (by simp)) _ (by rw [hT]; rfl)
          have f15 : f 15 = .bool true := hJ.vals 15 (hall 15 (by simp)) _ (by rw [hT]; rfl)
          have f32 : f 32 = .bool true := hJ.vals 32 (hall 32 (by simp)) _ (by rw [hT]; rfl)
          have xw := hJ.ext
          simp only [putAll, Act.put, List.setIfInBounds_toArray, List.set_cons_zero, List.set_cons_succ, Nat.zero_add, Nat.reduceAdd]
          rw [f0, f1, f2, f3, f4, f5, f6, f7, f8, f9, f10, f11, f12, f13, f14, f15, f32]
          clear f0 f1 f2 f3 f4 f5 f6 f7 f8 f9 f10 f11 f12 f13 f14 f15 f32 hJ hall hT
          generalize f 16 = y16
          generalize f 17 = y17
          generalize f 18 = y18
          generalize f 19 = y19
          generalize f 20 = y20
          generalize f 21 = y21
          generalize f 22 = y22
          generalize f 23 = y23
          generalize f 24 = y24
          generalize f 25 = y25
          generalize f 26 = y26
          generalize f 27 = y27
          generalize f 28 = y28
          generalize f 29 = y29
          generalize f 30 = y30
          generalize f 31 = y31
          go_wp2_with fail
          go_ret
          exact ⟨by rw [NE.out]; rfl, Ex.trans bw.out xw⟩
      · -- true false
        have NE := Lib.hid (show decide (ca.now = cb.now) = false by
          refine decide_eq_false (fun h => ?_)
          have h1 := HXA.out
          rw [h, HXB.out] at h1
          have := congrArg Prod.fst (Option.some.inj h1)
          cases this)
        go_wp2_with fail
        obtain ⟨T, hT⟩ : ∃ T : List (Option Value), T = [some (.pointer (some ⟨ga, 0, none⟩)), some (.int .i64 i), some (.pointer (some ⟨ga, 0, none⟩)), some (.pointer (some ⟨ga, 0, none⟩)), some (.pointer (some ⟨ga, i * 2, none⟩)), some (.pointer (some ⟨ga, i * 2, none⟩)), some (.bool true), some (.pointer (some ⟨gb, 0, none⟩)), some (.int .i64 i), some (.pointer (some ⟨gb, 0, none⟩)), some (.pointer (some ⟨gb, 0, none⟩)), some (.pointer (some ⟨gb, i * 2, none⟩)), some (.pointer (some ⟨gb, i * 2, none⟩)), some (.bool false), some (.bool true), some (.bool true), none, none, none, none, none, none, none, none, none, none, none, none, none, none, none, none, some (.bool true)] := ⟨_, rfl⟩
        refine wp_region_gen (JL wr T 1000 1001 0 #[] #[]) (by kernel_rfl) (by kernel_rfl) (by kernel_rfl) (fitB_spec (by kernel_rfl)) (fun listed f h => JL.start _ listed f h) ?_ ?_
        · intro i o ho
          have hi : i < 33 := (Array.getElem?_eq_some_iff.1 ho).1
          have hi' : i = 0 ∨ i = 1 ∨ i = 2 ∨ i = 3 ∨ i = 4 ∨ i = 5 ∨ i = 6 ∨ i = 7 ∨ i = 8 ∨ i = 9 ∨ i = 10 ∨ i = 11 ∨ i = 12 ∨ i = 13 ∨ i = 14 ∨ i = 15 ∨ i = 16 ∨ i = 17 ∨ i = 18 ∨ i = 19 ∨ i = 20 ∨ i = 21 ∨ i = 22 ∨ i = 23 ∨ i = 24 ∨ i = 25 ∨ i = 26 ∨ i = 27 ∨ i = 28 ∨ i = 29 ∨ i = 30 ∨ i = 31 ∨ i = 32 := by omega
          clear hi
          rcases hi' with rfl | rfl | rfl | rfl | rfl | rfl | rfl | rfl | rfl | rfl | rfl | rfl | rfl | rfl | rfl | rfl | rfl | rfl | rfl | rfl | rfl | rfl | rfl | rfl | rfl | rfl | rfl | rfl | rfl | rfl | rfl | rfl | rfl
          all_goals (simp only [List.getElem?_toArray, List.getElem?_cons_zero, List.getElem?_cons_succ, Option.some.injEq] at ho; subst ho; intro listed f a w2 hJ hsz hls hun hdep hout hlat)
          · rw [if_pos (by rfl)]
            intro K hK
            have q0 := hout 0 (outB_spec (by kernel_rfl))
            refine wp_mv _ rfl (hK _ _ ?_)
            rw [show a.eval (.tmp 0) = .pointer (some ⟨ga, 0, none⟩) from q0]
            exact hJ.plain (by decide) (by decide) (Ex.refl _) (fun x hx => by rw [hT] at hx; first | exact Option.some.inj hx | simpa using hx)
          · rw [if_pos (by rfl)]
            intro K hK
            have q5 := hout 5 (outB_spec (by kernel_rfl))
            refine wp_mv _ rfl (hK _ _ ?_)
            rw [show a.eval (.tmp 5) = .int .i64 i from q5]
            exact hJ.plain (by decide) (by decide) (Ex.refl _) (fun x hx => by rw [hT] at hx; first | exact Option.some.inj hx | simpa using hx)
          · rw [if_pos (by rfl)]
            intro K hK
            have q15 := (hdep ⟨0, .data⟩ (by simp) rfl).2 _ rfl _ rfl
            rw [show f 0 = _ from hJ.vals 0 (hdep ⟨0, .data⟩ (by simp) rfl).1 (.pointer (some ⟨ga, 0, none⟩)) (by rw [hT]; rfl)] at q15
            rw [Array.getD_eq_getD_getElem?] at q15
            clear hsz hdep hout hlat
            go_simp
            exact hK _ _ (hJ.plain (by decide) (by decide) (Ex.refl _) (fun x hx => by rw [hT] at hx; first | exact Option.some.inj hx | simpa using hx))
          · rw [if_pos (by rfl)]
            intro K hK
            have q17 := (hdep ⟨2, .data⟩ (by simp) rfl).2 _ rfl _ rfl
            rw [show f 2 = _ from hJ.vals 2 (hdep ⟨2, .data⟩ (by simp) rfl).1 (.pointer (some ⟨ga, 0, none⟩)) (by rw [hT]; rfl)] at q17
            rw [Array.getD_eq_getD_getElem?] at q17
            clear hsz hdep hout hlat
            go_simp
            exact hK _ _ (hJ.plain (by decide) (by decide) (Ex.refl _) (fun x hx => by rw [hT] at hx; first | exact Option.some.inj hx | simpa using hx))
          · rw [if_pos (by rfl)]
            intro K hK
            have q18 := (hdep ⟨3, .data⟩ (by simp) rfl).2 _ rfl _ rfl
            rw [show f 3 = _ from hJ.vals 3 (hdep ⟨3, .data⟩ (by simp) rfl).1 (.pointer (some ⟨ga, 0, none⟩)) (by rw [hT]; rfl)] at q18
            have q16 := (hdep ⟨1, .data⟩ (by simp) rfl).2 _ rfl _ rfl
            rw [show f 1 = _ from hJ.vals 1 (hdep ⟨1, .data⟩ (by simp) rfl).1 (.int .i64 i) (by rw [hT]; rfl)] at q16
            rw [Array.getD_eq_getD_getElem?] at q18
            rw [Array.getD_eq_getD_getElem?] at q16
            clear hsz hdep hout hlat
            have z0 := Z0.out
            have z1 := Z1.out
            go_simp
            exact hK _ _ (hJ.plain (by decide) (by decide) (Ex.refl _) (fun x hx => by rw [hT] at hx; first | exact Option.some.inj hx | simpa using hx))
          · rw [if_pos (by rfl)]
            intro K hK
            have q19 := (hdep ⟨4, .data⟩ (by simp) rfl).2 _ rfl _ rfl
            rw [show f 4 = _ from hJ.vals 4 (hdep ⟨4, .data⟩ (by simp) rfl).1 (.pointer (some ⟨ga, i * 2, none⟩)) (by rw [hT]; rfl)] at q19
            rw [Array.getD_eq_getD_getElem?] at q19
            clear hsz hdep hout hlat
            have z0 := Z0.out
            have z1 := Z1.out
            go_simp
            exact hK _ _ (hJ.plain (by decide) (by decide) (Ex.refl _) (fun x hx => by rw [hT] at hx; first | exact Option.some.inj hx | simpa using hx))
          · rw [if_pos (by rfl)]
            intro K hK
            have q20 := (hdep ⟨5, .data⟩ (by simp) rfl).2 _ rfl _ rfl
            rw [show f 5 = _ from hJ.vals 5 (hdep ⟨5, .data⟩ (by simp) rfl).1 (.pointer (some ⟨ga, i * 2, none⟩)) (by rw [hT]; rfl)] at q20
            have f1 : w2.cell? ⟨ga, i * 2, none⟩ = some (.bool true) := (hJ.ext.cell (p := ⟨ga, i * 2, none⟩) Lga.out).trans CA0.out
            rw [Array.getD_eq_getD_getElem?] at q20
            clear hsz hdep hout hlat
            go_simp
            exact hK _ _ (hJ.plain (by decide) (by decide) (Ex.refl _) (fun x hx => by rw [hT] at hx; first | exact Option.some.inj hx | simpa using hx))
          · rw [if_pos (by rfl)]
            intro K hK
            have q1 := hout 1 (outB_spec (by kernel_rfl))
            refine wp_mv _ rfl (hK _ _ ?_)
            rw [show a.eval (.tmp 1) = .pointer (some ⟨gb, 0, none⟩) from q1]
            exact hJ.plain (by decide) (by decide) (Ex.refl _) (fun x hx => by rw [hT] at hx; first | exact Option.some.inj hx | simpa using hx)
          · rw [if_pos (by rfl)]
            intro K hK
            have q5 := hout 5 (outB_spec (by kernel_rfl))
            refine wp_mv _ rfl (hK _ _ ?_)
            rw [show a.eval (.tmp 5) = .int .i64 i from q5]
            exact hJ.plain (by decide) (by decide) (Ex.refl _) (fun x hx => by rw [hT] at hx; first | exact Option.some.inj hx | simpa using hx)
          · rw [if_pos (by rfl)]
            intro K hK
            have q22 := (hdep ⟨7, .data⟩ (by simp) rfl).2 _ rfl _ rfl
            rw [show f 7 = _ from hJ.vals 7 (hdep ⟨7, .data⟩ (by simp) rfl).1 (.pointer (some ⟨gb, 0, none⟩)) (by rw [hT]; rfl)] at q22
            rw [Array.getD_eq_getD_getElem?] at q22
            clear hsz hdep hout hlat
            go_simp
            exact hK _ _ (hJ.plain (by decide) (by decide) (Ex.refl _) (fun x hx => by rw [hT] at hx; first | exact Option.some.inj hx | simpa using hx))
          · rw [if_pos (by rfl)]
            intro K hK
            have q24 := (hdep ⟨9, .data⟩ (by simp) rfl).2 _ rfl _ rfl
            rw [show f 9 = _ from hJ.vals 9 (hdep ⟨9, .data⟩ (by simp) rfl).1 (.pointer (some ⟨gb, 0, none⟩)) (by rw [hT]; rfl)] at q24
            rw [Array.getD_eq_getD_getElem?] at q24
            clear hsz hdep hout hlat
            go_simp
            exact hK _ _ (hJ.plain (by decide) (by decide) (Ex.refl _) (fun x hx => by rw [hT] at hx; first | exact Option.some.inj hx | simpa using hx))
          · rw [if_pos (by rfl)]
            intro K hK
            have q25 := (hdep ⟨10, .data⟩ (by simp) rfl).2 _ rfl _ rfl
            rw [show f 10 = _ from hJ.vals 10 (hdep ⟨10, .data⟩ (by simp) rfl).1 (.pointer (some ⟨gb, 0, none⟩)) (by rw [hT]; rfl)] at q25
            have q23 := (hdep ⟨8, .data⟩ (by simp) rfl).2 _ rfl _ rfl
            rw [show f 8 = _ from hJ.vals 8 (hdep ⟨8, .data⟩ (by simp) rfl).1 (.int .i64 i) (by rw [hT]; rfl)] at q23
            rw [Array.getD_eq_getD_getElem?] at q25
            rw [Array.getD_eq_getD_getElem?] at q23
            clear hsz hdep hout hlat
            have z0 := Z0.out
            have z1 := Z1.out
            go_simp
            exact hK _ _ (hJ.plain (by decide) (by decide) (Ex.refl _) (fun x hx => by rw [hT] at hx; first | exact Option.some.inj hx | simpa using hx))
          · rw [if_pos (by rfl)]
            intro K hK
            have q26 := (hdep ⟨11, .data⟩ (by simp) rfl).2 _ rfl _ rfl
            rw [show f 11 = _ from hJ.vals 11 (hdep ⟨11, .data⟩ (by simp) rfl).1 (.pointer (some ⟨gb, i * 2, none⟩)) (by rw [hT]; rfl)] at q26
            rw [Array.getD_eq_getD_getElem?] at q26
            clear hsz hdep hout hlat
            have z0 := Z0.out
            have z1 := Z1.out
            go_simp
            exact hK _ _ (hJ.plain (by decide) (by decide) (Ex.refl _) (fun x hx => by rw [hT] at hx; first | exact Option.some.inj hx | simpa using hx))
          · rw [if_pos (by rfl)]
            intro K hK
            have q27 := (hdep ⟨12, .data⟩ (by simp) rfl).2 _ rfl _ rfl
            rw [show f 12 = _ from hJ.vals 12 (hdep ⟨12, .data⟩ (by simp) rfl).1 (.pointer (some ⟨gb, i * 2, none⟩)) (by rw [hT]; rfl)] at q27
            have f1 : w2.cell? ⟨gb, i * 2, none⟩ = some (.bool false) := (hJ.ext.cell (p := ⟨gb, i * 2, none⟩) Lgb.out).trans CB0.out
            rw [Array.getD_eq_getD_getElem?] at q27
            clear hsz hdep hout hlat
            go_simp
            exact hK _ _ (hJ.plain (by decide) (by decide) (Ex.refl _) (fun x hx => by rw [hT] at hx; first | exact Option.some.inj hx | simpa using hx))
          · rw [if_pos (by rfl)]
            intro K hK
            have q21 := (hdep ⟨6, .data⟩ (by simp) rfl).2 _ rfl _ rfl
            rw [show f 6 = _ from hJ.vals 6 (hdep ⟨6, .data⟩ (by simp) rfl).1 (.bool true) (by rw [hT]; rfl)] at q21
            have q28 := (hdep ⟨13, .data⟩ (by simp) rfl).2 _ rfl _ rfl
            rw [show f 13 = _ from hJ.vals 13 (hdep ⟨13, .data⟩ (by simp) rfl).1 (.bool false) (by rw [hT]; rfl)] at q28
            rw [Array.getD_eq_getD_getElem?] at q21
            rw [Array.getD_eq_getD_getElem?] at q28
            clear hsz hdep hout hlat
            go_simp
            exact hK _ _ (hJ.plain (by decide) (by decide) (Ex.refl _) (fun x hx => by rw [hT] at hx; first | exact Option.some.inj hx | simpa using hx))
          · rw [if_pos (by rfl)]
            intro K hK
            have q29 := (hdep ⟨14, .data⟩ (by simp) rfl).2 _ rfl _ rfl
            rw [show f 14 = _ from hJ.vals 14 (hdep ⟨14, .data⟩ (by simp) rfl).1 (.bool true) (by rw [hT]; rfl)] at q29
            refine wp_mv _ rfl (hK _ _ ?_)
            rw [show a.eval (.tmp 29) = .bool true from q29]
            exact hJ.plain (by decide) (by decide) (Ex.refl _) (fun x hx => by rw [hT] at hx; first | exact Option.some.inj hx | simpa using hx)
          · have kg := (hdep ⟨15, .guard⟩ (by simp) rfl).2 _ rfl _ rfl
            rw [show f 15 = _ from hJ.vals 15 (hdep ⟨15, .guard⟩ (by simp) rfl).1 (.bool true) (by rw [hT]; rfl)] at kg
            rw [if_neg (not_wanted rfl rfl rfl kg (by decide))]
            exact hJ.plain (by decide) (by decide) (Ex.refl _) (fun x hx => by rw [hT] at hx; change none = some x at hx; cases hx)
          · have kg := (hdep ⟨15, .guard⟩ (by simp) rfl).2 _ rfl _ rfl
            rw [show f 15 = _ from hJ.vals 15 (hdep ⟨15, .guard⟩ (by simp) rfl).1 (.bool true) (by rw [hT]; rfl)] at kg
            rw [if_neg (not_wanted rfl rfl rfl kg (by decide))]
            exact hJ.plain (by decide) (by decide) (Ex.refl _) (fun x hx => by rw [hT] at hx; change none = some x at hx; cases hx)
          · have kg := (hdep ⟨15, .guard⟩ (by simp) rfl).2 _ rfl _ rfl
            rw [show f 15 = _ from hJ.vals 15 (hdep ⟨15, .guard⟩ (by simp) rfl).1 (.bool true) (by rw [hT]; rfl)] at kg
            rw [if_neg (not_wanted rfl rfl rfl kg (by decide))]
            exact hJ.plain (by decide) (by decide) (Ex.refl _) (fun x hx => by rw [hT] at hx; change none = some x at hx; cases hx)
          · have kg := (hdep ⟨15, .guard⟩ (by simp) rfl).2 _ rfl _ rfl
            rw [show f 15 = _ from hJ.vals 15 (hdep ⟨15, .guard⟩ (by simp) rfl).1 (.bool true) (by rw [hT]; rfl)] at kg
            rw [if_neg (not_wanted rfl rfl rfl kg (by decide))]
            exact hJ.plain (by decide) (by decide) (Ex.refl _) (fun x hx => by rw [hT] at hx; change none = some x at hx; cases hx)
          · have kg := (hdep ⟨15, .guard⟩ (by simp) rfl).2 _ rfl _ rfl
            rw [show f 15 = _ from hJ.vals 15 (hdep ⟨15, .guard⟩ (by simp) rfl).1 (.bool true) (by rw [hT]; rfl)] at kg
            rw [if_neg (not_wanted rfl rfl rfl kg (by decide))]
            exact hJ.plain (by decide) (by decide) (Ex.refl _) (fun x hx => by rw [hT] at hx; change none = some x at hx; cases hx)
          · have kg := (hdep ⟨15, .guard⟩ (by simp) rfl).2 _ rfl _ rfl
            rw [show f 15 = _ from hJ.vals 15 (hdep ⟨15, .guard⟩ (by simp) rfl).1 (.bool true) (by rw [hT]; rfl)] at kg
            rw [if_neg (not_wanted rfl rfl rfl kg (by decide))]
            exact hJ.plain (by decide) (by decide) (Ex.refl _) (fun x hx => by rw [hT] at hx; change none = some x at hx; cases hx)
          · have kg := (hdep ⟨15, .guard⟩ (by simp) rfl).2 _ rfl _ rfl
            rw [show f 15 = _ from hJ.vals 15 (hdep ⟨15, .guard⟩ (by simp) rfl).1 (.bool true) (by rw [hT]; rfl)] at kg
            rw [if_neg (not_wanted rfl rfl rfl kg (by decide))]
            exact hJ.plain (by decide) (by decide) (Ex.refl _) (fun x hx => by rw [hT] at hx; change none = some x at hx; cases hx)
          · have kg := (hdep ⟨15, .guard⟩ (by simp) rfl).2 _ rfl _ rfl
            rw [show f 15 = _ from hJ.vals 15 (hdep ⟨15, .guard⟩ (by simp) rfl).1 (.bool true) (by rw [hT]; rfl)] at kg
            rw [if_neg (not_wanted rfl rfl rfl kg (by decide))]
            exact hJ.plain (by decide) (by decide) (Ex.refl _) (fun x hx => by rw [hT] at hx; change none = some x at hx; cases hx)
          · have kg := (hdep ⟨15, .guard⟩ (by simp) rfl).2 _ rfl _ rfl
            rw [show f 15 = _ from hJ.vals 15 (hdep ⟨15, .guard⟩ (by simp) rfl).1 (.bool true) (by rw [hT]; rfl)] at kg
            rw [if_neg (not_wanted rfl rfl rfl kg (by decide))]
            exact hJ.plain (by decide) (by decide) (Ex.refl _) (fun x hx => by rw [hT] at hx; change none = some x at hx; cases hx)
          · have kg := (hdep ⟨15, .guard⟩ (by simp) rfl).2 _ rfl _ rfl
            rw [show f 15 = _ from hJ.vals 15 (hdep ⟨15, .guard⟩ (by simp) rfl).1 (.bool true) (by rw [hT]; rfl)] at kg
            rw [if_neg (not_wanted rfl rfl rfl kg (by decide))]
            exact hJ.plain (by decide) (by decide) (Ex.refl _) (fun x hx => by rw [hT] at hx; change none = some x at hx; cases hx)
          · have kg := (hdep ⟨15, .guard⟩ (by simp) rfl).2 _ rfl _ rfl
            rw [show f 15 = _ from hJ.vals 15 (hdep ⟨15, .guard⟩ (by simp) rfl).1 (.bool true) (by rw [hT]; rfl)] at kg
            rw [if_neg (not_wanted rfl rfl rfl kg (by decide))]
            exact hJ.plain (by decide) (by decide) (Ex.refl _) (fun x hx => by rw [hT] at hx; change none = some x at hx; cases hx)
          · have kg := (hdep ⟨15, .guard⟩ (by simp) rfl).2 _ rfl _ rfl
            rw [show f 15 = _ from hJ.vals 15 (hdep ⟨15, .guard⟩ (by simp) rfl).1 (.bool true) (by rw [hT]; rfl)] at kg
            rw [if_neg (not_wanted rfl rfl rfl kg (by decide))]
            exact hJ.plain (by decide) (by decide) (Ex.refl _) (fun x hx => by rw [hT] at hx; change none = some x at hx; cases hx)
          · have kg := (hdep ⟨15, .guard⟩ (by simp) rfl).2 _ rfl _ rfl
            rw [show f 15 = _ from hJ.vals 15 (hdep ⟨15, .guard⟩ (by simp) rfl).1 (.bool true) (by rw [hT]; rfl)] at kg
            rw [if_neg (not_wanted rfl rfl rfl kg (by decide))]
            exact hJ.plain (by decide) (by decide) (Ex.refl _) (fun x hx => by rw [hT] at hx; change none = some x at hx; cases hx)
          · have kg := (hdep ⟨15, .guard⟩ (by simp) rfl).2 _ rfl _ rfl
            rw [show f 15 = _ from hJ.vals 15 (hdep ⟨15, .guard⟩ (by simp) rfl).1 (.bool true) (by rw [hT]; rfl)] at kg
            rw [if_neg (not_wanted rfl rfl rfl kg (by decide))]
            exact hJ.plain (by decide) (by decide) (Ex.refl _) (fun x hx => by rw [hT] at hx; change none = some x at hx; cases hx)
          · have kg := (hdep ⟨15, .guard⟩ (by simp) rfl).2 _ rfl _ rfl
            rw [show f 15 = _ from hJ.vals 15 (hdep ⟨15, .guard⟩ (by simp) rfl).1 (.bool true) (by rw [hT]; rfl)] at kg
            rw [if_neg (not_wanted rfl rfl rfl kg (by decide))]
            exact hJ.plain (by decide) (by decide) (Ex.refl _) (fun x hx => by rw [hT] at hx; change none = some x at hx; cases hx)
          · have kg := (hdep ⟨15, .guard⟩ (by simp) rfl).2 _ rfl _ rfl
            rw [show f 15 = _ from hJ.vals 15 (hdep ⟨15, .guard⟩ (by simp) rfl).1 (.bool true) (by rw [hT]; rfl)] at kg
            rw [if_neg (not_wanted rfl rfl rfl kg (by decide))]
            exact hJ.plain (by decide) (by decide) (Ex.refl _) (fun x hx => by rw [hT] at hx; change none = some x at hx; cases hx)
          · rw [if_pos (by rfl)]
            intro K hK
            have q30 := (hdep ⟨15, .data⟩ (by simp) rfl).2 _ rfl _ rfl
            rw [show f 15 = _ from hJ.vals 15 (hdep ⟨15, .data⟩ (by simp) rfl).1 (.bool true) (by rw [hT]; rfl)] at q30
            have q46 := (hdep ⟨31, .data⟩ (by simp) rfl).2 _ rfl _ rfl
            rw [Array.getD_eq_getD_getElem?] at q30
            rw [Array.getD_eq_getD_getElem?] at q46
            clear hsz hdep hout hlat
            go_simp
            exact hK _ _ (hJ.plain (by decide) (by decide) (Ex.refl _) (fun x hx => by rw [hT] at hx; first | exact Option.some.inj hx | simpa using hx))
        · intro listed f w2 hall hJ
          have f0 : f 0 = .pointer (some ⟨ga, 0, none⟩) := hJ.vals 0 (hall 0 (by simp)) _ (by rw [hT]; rfl)
          have f1 : f 1 = .int .i64 i := hJ.vals 1 (hall 1 (by simp)) _ (by rw [hT]; rfl)
          have f2 : f 2 = .pointer (some ⟨ga, 0, none⟩) := hJ.vals 2 (hall 2 (by simp)) _ (by rw [hT]; rfl)
          have f3 : f 3 = .pointer (some ⟨ga, 0, none⟩) := hJ.vals 3 (hall 3 (by simp)) _ (by rw [hT]; rfl)
          have f4 : f 4 = .pointer (some ⟨ga, i * 2, none⟩) := hJ.vals 4 (hall 4 (by simp)) _ (by rw [hT]; rfl)
          have f5 : f 5 = .pointer (some ⟨ga, i * 2, none⟩) := hJ.vals 5 (hall 5 (by simp)) _ (by rw [hT]; rfl)
          have f6 : f 6 = .bool true := hJ.vals 6 (hall 6 (by simp)) _ (by rw [hT]; rfl)
          have f7 : f 7 = .pointer (some ⟨gb, 0, none⟩) := hJ.vals 7 (hall 7 (by simp)) _ (by rw [hT]; rfl)
          have f8 : f 8 = .int .i64 i := hJ.vals 8 (hall 8 (by simp)) _ (by rw [hT]; rfl)
          have f9 : f 9 = .pointer (some ⟨gb, 0, none⟩) := hJ.vals 9 (hall 9 (by simp)) _ (by rw [hT]; rfl)
          have f10 : f 10 = .pointer (some ⟨gb, 0, none⟩) := hJ.vals 10 (hall 10 (by simp)) _ (by rw [hT]; rfl)
          have f11 : f 11 = .pointer (some ⟨gb, i * 2, none⟩) := hJ.vals 11 (hall 11 (by simp)) _ (by rw [hT]; rfl)
          have f12 : f 12 = .pointer (some ⟨gb, i * 2, none⟩) := hJ.vals 12 (hall 12 (by simp)) _ (by rw [hT]; rfl)
          have f13 : f 13 = .bool false := hJ.vals 13 (hall 13 (by simp)) _ (by rw [hT]; rfl)
          have f14 : f 14 = .bool true := hJ.vals 14 (hall 14 (by simp)) _ (by rw [hT]; rfl)
          have f15 : f 15 = .bool true := hJ.vals 15 (hall 15 (by simp)) _ (by rw [hT]; rfl)
          have f32 : f 32 = .bool true := hJ.vals 32 (hall 32 (by simp)) _ (by rw [hT]; rfl)
          have xw := hJ.ext
          simp only [putAll, Act.put, List.setIfInBounds_toArray, List.set_cons_zero, List.set_cons_succ, Nat.zero_add, Nat.reduceAdd]
          rw [f0, f1, f2, f3, f4, f5, f6, f7, f8, f9, f10, f11, f12, f13, f14, f15, f32]
          clear f0 f1 f2 f3 f4 f5 f6 f7 f8 f9 f10 f11 f12 f13 f14 f15 f32 hJ hall hT
          generalize f 16 = y16
          generalize f 17 = y17
          generalize f 18 = y18
          generalize f 19 = y19
          generalize f 20 = y20
          generalize f 21 = y21
          generalize f 22 = y22
          generalize f 23 = y23
          generalize f 24 = y24
          generalize f 25 = y25
          generalize f 26 = y26
          generalize f 27 = y27
          generalize f 28 = y28
          generalize f 29 = y29
          generalize f 30 = y30
          generalize f 31 = y31
          go_wp2_with fail
          go_ret
          exact ⟨by rw [NE.out]; rfl, Ex.trans bw.out xw⟩
      · -- true true
        go_wp2_with fail
        obtain ⟨T, hT⟩ : ∃ T : List (Option Value), T = [some (.pointer (some ⟨ga, 0, none⟩)), some (.int .i64 i), some (.pointer (some ⟨ga, 0, none⟩)), some (.pointer (some ⟨ga, 0, none⟩)), some (.pointer (some ⟨ga, i * 2, none⟩)), some (.pointer (some ⟨ga, i * 2, none⟩)), some (.bool true), some (.pointer (some ⟨gb, 0, none⟩)), some (.int .i64 i), some (.pointer (some ⟨gb, 0, none⟩)), some (.pointer (some ⟨gb, 0, none⟩)), some (.pointer (some ⟨gb, i * 2, none⟩)), some (.pointer (some ⟨gb, i * 2, none⟩)), some (.bool true), some (.bool false), some (.bool false), some (.pointer (some ⟨ga, 0, none⟩)), some (.int .i64 i), some (.pointer (some ⟨ga, 0, none⟩)), some (.pointer (some ⟨ga, 0, none⟩)), some (.pointer (some ⟨ga, i * 2, none⟩)), some (.pointer (some ⟨ga, i * 2 + 1, none⟩)), some (.slice pa pn pc), some (.pointer (some ⟨gb, 0, none⟩)), some (.int .i64 i), some (.pointer (some ⟨gb, 0, none⟩)), some (.pointer (some ⟨gb, 0, none⟩)), some (.pointer (some ⟨gb, i * 2, none⟩)), some (.pointer (some ⟨gb, i * 2 + 1, none⟩)), some (.slice qa qn qc), some (.bool eqb), some (.bool (!eqb)), some (.bool (!eqb))] := ⟨_, rfl⟩
        refine wp_region_gen (JL wr T 1000 1001 0 #[] #[]) (by kernel_rfl) (by kernel_rfl) (by kernel_rfl) (fitB_spec (by kernel_rfl)) (fun listed f h => JL.start _ listed f h) ?_ ?_
        · intro i o ho
          have hi : i < 33 := (Array.getElem?_eq_some_iff.1 ho).1
          have hi' : i = 0 ∨ i = 1 ∨ i = 2 ∨ i = 3 ∨ i = 4 ∨ i = 5 ∨ i = 6 ∨ i = 7 ∨ i = 8 ∨ i = 9 ∨ i = 10 ∨ i = 11 ∨ i = 12 ∨ i = 13 ∨ i = 14 ∨ i = 15 ∨ i = 16 ∨ i = 17 ∨ i = 18 ∨ i = 19 ∨ i = 20 ∨ i = 21 ∨ i = 22 ∨ i = 23 ∨ i = 24 ∨ i = 25 ∨ i = 26 ∨ i = 27 ∨ i = 28 ∨ i = 29 ∨ i = 30 ∨ i = 31 ∨ i = 32 := by omega
          clear hi
          rcases hi' with rfl | rfl | rfl | rfl | rfl | rfl | rfl | rfl | rfl | rfl | rfl | rfl | rfl | rfl | rfl | rfl | rfl | rfl | rfl | rfl | rfl | rfl | rfl | rfl | rfl | rfl | rfl | rfl | rfl | rfl | rfl | rfl | rfl
          all_goals (simp only [List.getElem?_toArray, List.getElem?_cons_zero, List.getElem?_cons_succ, Option.some.injEq] at ho; subst ho; intro listed f a w2 hJ hsz hls hun hdep hout hlat)
          · rw [if_pos (by rfl)]
            intro K hK
            have q0 := hout 0 (outB_spec (by kernel_rfl))
            refine wp_mv _ rfl (hK _ _ ?_)
            rw [show a.eval (.tmp 0) = .pointer (some ⟨ga, 0, none⟩) from q0]
            exact hJ.plain (by decide) (by decide) (Ex.refl _) (fun x hx => by rw [hT] at hx; first | exact Option.some.inj hx | simpa using hx)
          · rw [if_pos (by rfl)]
            intro K hK
            have q5 := hout 5 (outB_spec (by kernel_rfl))
            refine wp_mv _ rfl (hK _ _ ?_)
            rw [show a.eval (.tmp 5) = .int .i64 i from q5]
            exact hJ.plain (by decide) (by decide) (Ex.refl _) (fun x hx => by rw [hT] at hx; first | exact Option.some.inj hx | simpa using hx)
          · rw [if_pos (by rfl)]
            intro K hK
            have q15 := (hdep ⟨0, .data⟩ (by simp) rfl).2 _ rfl _ rfl
            rw [show f 0 = _ from hJ.vals 0 (hdep ⟨0, .data⟩ (by simp) rfl).1 (.pointer (some ⟨ga, 0, none⟩)) (by rw [hT]; rfl)] at q15
            rw [Array.getD_eq_getD_getElem?] at q15
            clear hsz hdep hout hlat
            go_simp
            exact hK _ _ (hJ.plain (by decide) (by decide) (Ex.refl _) (fun x hx => by rw [hT] at hx; first | exact Option.some.inj hx | simpa using hx))
          · rw [if_pos (by rfl)]
            intro K hK
            have q17 := (hdep ⟨2, .data⟩ (by simp) rfl).2 _ rfl _ rfl
            rw [show f 2 = _ from hJ.vals 2 (hdep ⟨2, .data⟩ (by simp) rfl).1 (.pointer (some ⟨ga, 0, none⟩)) (by rw [hT]; rfl)] at q17
            rw [Array.getD_eq_getD_getElem?] at q17
            clear hsz hdep hout hlat
            go_simp
            exact hK _ _ (hJ.plain (by decide) (by decide) (Ex.refl _) (fun x hx => by rw [hT] at hx; first | exact Option.some.inj hx | simpa using hx))
          · rw [if_pos (by rfl)]
            intro K hK
            have q18 := (hdep ⟨3, .data⟩ (by simp) rfl).2 _ rfl _ rfl
            rw [show f 3 = _ from hJ.vals 3 (hdep ⟨3, .data⟩ (by simp) rfl).1 (.pointer (some ⟨ga, 0, none⟩)) (by rw [hT]; rfl)] at q18
            have q16 := (hdep ⟨1, .data⟩ (by simp) rfl).2 _ rfl _ rfl
            rw [show f 1 = _ from hJ.vals 1 (hdep ⟨1, .data⟩ (by simp) rfl).1 (.int .i64 i) (by rw [hT]; rfl)] at q16
            rw [Array.getD_eq_getD_getElem?] at q18
            rw [Array.getD_eq_getD_getElem?] at q16
            clear hsz hdep hout hlat
            have z0 := Z0.out
            have z1 := Z1.out
            go_simp
            exact hK _ _ (hJ.plain (by decide) (by decide) (Ex.refl _) (fun x hx => by rw [hT] at hx; first | exact Option.some.inj hx | simpa using hx))
          · rw [if_pos (by rfl)]
            intro K hK
            have q19 := (hdep ⟨4, .data⟩ (by simp) rfl).2 _ rfl _ rfl
            rw [show f 4 = _ from hJ.vals 4 (hdep ⟨4, .data⟩ (by simp) rfl).1 (.pointer (some ⟨ga, i * 2, none⟩)) (by rw [hT]; rfl)] at q19
            rw [Array.getD_eq_getD_getElem?] at q19
            clear hsz hdep hout hlat
            have z0 := Z0.out
            have z1 := Z1.out
            go_simp
            exact hK _ _ (hJ.plain (by decide) (by decide) (Ex.refl _) (fun x hx => by rw [hT] at hx; first | exact Option.some.inj hx | simpa using hx))
          · rw [if_pos (by rfl)]
            intro K hK
            have q20 := (hdep ⟨5, .data⟩ (by simp) rfl).2 _ rfl _ rfl
            rw [show f 5 = _ from hJ.vals 5 (hdep ⟨5, .data⟩ (by simp) rfl).1 (.pointer (some ⟨ga, i * 2, none⟩)) (by rw [hT]; rfl)] at q20
            have f1 : w2.cell? ⟨ga, i * 2, none⟩ = some (.bool true) := (hJ.ext.cell (p := ⟨ga, i * 2, none⟩) Lga.out).trans CA0.out
            rw [Array.getD_eq_getD_getElem?] at q20
            clear hsz hdep hout hlat
            go_simp
            exact hK _ _ (hJ.plain (by decide) (by decide) (Ex.refl _) (fun x hx => by rw [hT] at hx; first | exact Option.some.inj hx | simpa using hx))
          · rw [if_pos (by rfl)]
            intro K hK
            have q1 := hout 1 (outB_spec (by kernel_rfl))
            refine wp_mv _ rfl (hK _ _ ?_)
            rw [show a.eval (.tmp 1) = .pointer (some ⟨gb, 0, none⟩) from q1]
            exact hJ.plain (by decide) (by decide) (Ex.refl _) (fun x hx => by rw [hT] at hx; first | exact Option.some.inj hx | simpa using hx)
          · rw [if_pos (by rfl)]
            intro K hK
            have q5 := hout 5 (outB_spec (by kernel_rfl))
            refine wp_mv _ rfl (hK _ _ ?_)
            rw [show a.eval (.tmp 5) = .int .i64 i from q5]
            exact hJ.plain (by decide) (by decide) (Ex.refl _) (fun x hx => by rw [hT] at hx; first | exact Option.some.inj hx | simpa using hx)
          · rw [if_pos (by rfl)]
            intro K hK
            have q22 := (hdep ⟨7, .data⟩ (by simp) rfl).2 _ rfl _ rfl
            rw [show f 7 = _ from hJ.vals 7 (hdep ⟨7, .data⟩ (by simp) rfl).1 (.pointer (some ⟨gb, 0, none⟩)) (by rw [hT]; rfl)] at q22
            rw [Array.getD_eq_getD_getElem?] at q22
            clear hsz hdep hout hlat
            go_simp
            exact hK _ _ (hJ.plain (by decide) (by decide) (Ex.refl _) (fun x hx => by rw [hT] at hx; first | exact Option.some.inj hx | simpa using hx))
          · rw [if_pos (by rfl)]
            intro K hK
            have q24 := (hdep ⟨9, .data⟩ (by simp) rfl).2 _ rfl _ rfl
            rw [show f 9 = _ from hJ.vals 9 (hdep ⟨9, .data⟩ (by simp) rfl).1 (.pointer (some ⟨gb, 0, none⟩)) (by rw [hT]; rfl)] at q24
            rw [Array.getD_eq_getD_getElem?] at q24
            clear hsz hdep hout hlat
            go_simp
            exact hK _ _ (hJ.plain (by decide) (by decide) (Ex.refl _) (fun x hx => by rw [hT] at hx; first | exact Option.some.inj hx | simpa using hx))
          · rw [if_pos (by rfl)]
            intro K hK
            have q25 := (hdep ⟨10, .data⟩ (by simp) rfl).2 _ rfl _ rfl
            rw [show f 10 = _ from hJ.vals 10 (hdep ⟨10, .data⟩ (by simp) rfl).1 (.pointer (some ⟨gb, 0, none⟩)) (by rw [hT]; rfl)] at q25
            have q23 := (hdep ⟨8, .data⟩ (by simp) rfl).2 _ rfl _ rfl
            rw [show f 8 = _ from hJ.vals 8 (hdep ⟨8, .data⟩ (by simp) rfl).1 (.int .i64 i) (by rw [hT]; rfl)] at q23
            rw [Array.getD_eq_getD_getElem?] at q25
            rw [Array.getD_eq_getD_getElem?] at q23
            clear hsz hdep hout hlat
            have z0 := Z0.out
            have z1 := Z1.out
            go_simp
            exact hK _ _ (hJ.plain (by decide) (by decide) (Ex.refl _) (fun x hx => by rw [hT] at hx; first | exact Option.some.inj hx | simpa using hx))
          · rw [if_pos (by rfl)]
            intro K hK
            have q26 := (hdep ⟨11, .data⟩ (by simp) rfl).2 _ rfl _ rfl
            rw [show f 11 = _ from hJ.vals 11 (hdep ⟨11, .data⟩ (by simp) rfl).1 (.pointer (some ⟨gb, i * 2, none⟩)) (by rw [hT]; rfl)] at q26
            rw [Array.getD_eq_getD_getElem?] at q26
            clear hsz hdep hout hlat
            have z0 := Z0.out
            have z1 := Z1.out
            go_simp
            exact hK _ _ (hJ.plain (by decide) (by decide) (Ex.refl _) (fun x hx => by rw [hT] at hx; first | exact Option.some.inj hx | simpa using hx))
          · rw [if_pos (by rfl)]
            intro K hK
            have q27 := (hdep ⟨12, .data⟩ (by simp) rfl).2 _ rfl _ rfl
            rw [show f 12 = _ from hJ.vals 12 (hdep ⟨12, .data⟩ (by simp) rfl).1 (.pointer (some ⟨gb, i * 2, none⟩)) (by rw [hT]; rfl)] at q27
            have f1 : w2.cell? ⟨gb, i * 2, none⟩ = some (.bool true) := (hJ.ext.cell (p := ⟨gb, i * 2, none⟩) Lgb.out).trans CB0.out
            rw [Array.getD_eq_getD_getElem?] at q27
            clear hsz hdep hout hlat
            go_simp
            exact hK _ _ (hJ.plain (by decide) (by decide) (Ex.refl _) (fun x hx => by rw [hT] at hx; first | exact Option.some.inj hx | simpa using hx))
          · rw [if_pos (by rfl)]
            intro K hK
            have q21 := (hdep ⟨6, .data⟩ (by simp) rfl).2 _ rfl _ rfl
            rw [show f 6 = _ from hJ.vals 6 (hdep ⟨6, .data⟩ (by simp) rfl).1 (.bool true) (by rw [hT]; rfl)] at q21
            have q28 := (hdep ⟨13, .data⟩ (by simp) rfl).2 _ rfl _ rfl
            rw [show f 13 = _ from hJ.vals 13 (hdep ⟨13, .data⟩ (by simp) rfl).1 (.bool true) (by rw [hT]; rfl)] at q28
            rw [Array.getD_eq_getD_getElem?] at q21
            rw [Array.getD_eq_getD_getElem?] at q28
            clear hsz hdep hout hlat
            go_simp
            exact hK _ _ (hJ.plain (by decide) (by decide) (Ex.refl _) (fun x hx => by rw [hT] at hx; first | exact Option.some.inj hx | simpa using hx))
          · rw [if_pos (by rfl)]
            intro K hK
            have q29 := (hdep ⟨14, .data⟩ (by simp) rfl).2 _ rfl _ rfl
            rw [show f 14 = _ from hJ.vals 14 (hdep ⟨14, .data⟩ (by simp) rfl).1 (.bool false) (by rw [hT]; rfl)] at q29
            refine wp_mv _ rfl (hK _ _ ?_)
            rw [show a.eval (.tmp 29) = .bool false from q29]
            exact hJ.plain (by decide) (by decide) (Ex.refl _) (fun x hx => by rw [hT] at hx; first | exact Option.some.inj hx | simpa using hx)
          · have kg := (hdep ⟨15, .guard⟩ (by simp) rfl).2 _ rfl _ rfl
            rw [show f 15 = _ from hJ.vals 15 (hdep ⟨15, .guard⟩ (by simp) rfl).1 (.bool false) (by rw [hT]; rfl)] at kg
            rw [if_pos (wanted_of rfl rfl rfl kg)]
            intro K hK
            have q0 := hout 0 (outB_spec (by kernel_rfl))
            refine wp_mv _ rfl (hK _ _ ?_)
            rw [show a.eval (.tmp 0) = .pointer (some ⟨ga, 0, none⟩) from q0]
            exact hJ.plain (by decide) (by decide) (Ex.refl _) (fun x hx => by rw [hT] at hx; first | exact Option.some.inj hx | simpa using hx)
          · have kg := (hdep ⟨15, .guard⟩ (by simp) rfl).2 _ rfl _ rfl
            rw [show f 15 = _ from hJ.vals 15 (hdep ⟨15, .guard⟩ (by simp) rfl).1 (.bool false) (by rw [hT]; rfl)] at kg
            rw [if_pos (wanted_of rfl rfl rfl kg)]
            intro K hK
            have q5 := hout 5 (outB_spec (by kernel_rfl))
            refine wp_mv _ rfl (hK _ _ ?_)
            rw [show a.eval (.tmp 5) = .int .i64 i from q5]
            exact hJ.plain (by decide) (by decide) (Ex.refl _) (fun x hx => by rw [hT] at hx; first | exact Option.some.inj hx | simpa using hx)
          · have kg := (hdep ⟨15, .guard⟩ (by simp) rfl).2 _ rfl _ rfl
            rw [show f 15 = _ from hJ.vals 15 (hdep ⟨15, .guard⟩ (by simp) rfl).1 (.bool false) (by rw [hT]; rfl)] at kg
            rw [if_pos (wanted_of rfl rfl rfl kg)]
            intro K hK
            have q31 := (hdep ⟨16, .data⟩ (by simp) rfl).2 _ rfl _ rfl
            rw [show f 16 = _ from hJ.vals 16 (hdep ⟨16, .data⟩ (by simp) rfl).1 (.pointer (some ⟨ga, 0, none⟩)) (by rw [hT]; rfl)] at q31
            rw [Array.getD_eq_getD_getElem?] at q31
            clear hsz hdep hout hlat
            go_simp
            exact hK _ _ (hJ.plain (by decide) (by decide) (Ex.refl _) (fun x hx => by rw [hT] at hx; first | exact Option.some.inj hx | simpa using hx))
          · have kg := (hdep ⟨15, .guard⟩ (by simp) rfl).2 _ rfl _ rfl
            rw [show f 15 = _ from hJ.vals 15 (hdep ⟨15, .guard⟩ (by simp) rfl).1 (.bool false) (by rw [hT]; rfl)] at kg
            rw [if_pos (wanted_of rfl rfl rfl kg)]
            intro K hK
            have q33 := (hdep ⟨18, .data⟩ (by simp) rfl).2 _ rfl _ rfl
            rw [show f 18 = _ from hJ.vals 18 (hdep ⟨18, .data⟩ (by simp) rfl).1 (.pointer (some ⟨ga, 0, none⟩)) (by rw [hT]; rfl)] at q33
            rw [Array.getD_eq_getD_getElem?] at q33
            clear hsz hdep hout hlat
            go_simp
            exact hK _ _ (hJ.plain (by decide) (by decide) (Ex.refl _) (fun x hx => by rw [hT] at hx; first | exact Option.some.inj hx | simpa using hx))
          · have kg := (hdep ⟨15, .guard⟩ (by simp) rfl).2 _ rfl _ rfl
            rw [show f 15 = _ from hJ.vals 15 (hdep ⟨15, .guard⟩ (by simp) rfl).1 (.bool false) (by rw [hT]; rfl)] at kg
            rw [if_pos (wanted_of rfl rfl rfl kg)]
            intro K hK
            have q34 := (hdep ⟨19, .data⟩ (by simp) rfl).2 _ rfl _ rfl
            rw [show f 19 = _ from hJ.vals 19 (hdep ⟨19, .data⟩ (by simp) rfl).1 (.pointer (some ⟨ga, 0, none⟩)) (by rw [hT]; rfl)] at q34
            have q32 := (hdep ⟨17, .data⟩ (by simp) rfl).2 _ rfl _ rfl
            rw [show f 17 = _ from hJ.vals 17 (hdep ⟨17, .data⟩ (by simp) rfl).1 (.int .i64 i) (by rw [hT]; rfl)] at q32
            rw [Array.getD_eq_getD_getElem?] at q34
            rw [Array.getD_eq_getD_getElem?] at q32
            clear hsz hdep hout hlat
            have z0 := Z0.out
            have z1 := Z1.out
            go_simp
            exact hK _ _ (hJ.plain (by decide) (by decide) (Ex.refl _) (fun x hx => by rw [hT] at hx; first | exact Option.some.inj hx | simpa using hx))
          · have kg := (hdep ⟨15, .guard⟩ (by simp) rfl).2 _ rfl _ rfl
            rw [show f 15 = _ from hJ.vals 15 (hdep ⟨15, .guard⟩ (by simp) rfl).1 (.bool false) (by rw [hT]; rfl)] at kg
            rw [if_pos (wanted_of rfl rfl rfl kg)]
            intro K hK
            have q35 := (hdep ⟨20, .data⟩ (by simp) rfl).2 _ rfl _ rfl
            rw [show f 20 = _ from hJ.vals 20 (hdep ⟨20, .data⟩ (by simp) rfl).1 (.pointer (some ⟨ga, i * 2, none⟩)) (by rw [hT]; rfl)] at q35
            rw [Array.getD_eq_getD_getElem?] at q35
            clear hsz hdep hout hlat
            have z0 := Z0.out
            have z1 := Z1.out
            go_simp
            exact hK _ _ (hJ.plain (by decide) (by decide) (Ex.refl _) (fun x hx => by rw [hT] at hx; first | exact Option.some.inj hx | simpa using hx))
          · have kg := (hdep ⟨15, .guard⟩ (by simp) rfl).2 _ rfl _ rfl
            rw [show f 15 = _ from hJ.vals 15 (hdep ⟨15, .guard⟩ (by simp) rfl).1 (.bool false) (by rw [hT]; rfl)] at kg
            rw [if_pos (wanted_of rfl rfl rfl kg)]
            intro K hK
            have q36 := (hdep ⟨21, .data⟩ (by simp) rfl).2 _ rfl _ rfl
            rw [show f 21 = _ from hJ.vals 21 (hdep ⟨21, .data⟩ (by simp) rfl).1 (.pointer (some ⟨ga, i * 2 + 1, none⟩)) (by rw [hT]; rfl)] at q36
            have f1 : w2.cell? ⟨ga, i * 2 + 1, none⟩ = some (.slice pa pn pc) := (hJ.ext.cell (p := ⟨ga, i * 2 + 1, none⟩) Lga.out).trans CA1.out
            rw [Array.getD_eq_getD_getElem?] at q36
            clear hsz hdep hout hlat
            go_simp
            exact hK _ _ (hJ.plain (by decide) (by decide) (Ex.refl _) (fun x hx => by rw [hT] at hx; first | exact Option.some.inj hx | simpa using hx))
          · have kg := (hdep ⟨15, .guard⟩ (by simp) rfl).2 _ rfl _ rfl
            rw [show f 15 = _ from hJ.vals 15 (hdep ⟨15, .guard⟩ (by simp) rfl).1 (.bool false) (by rw [hT]; rfl)] at kg
            rw [if_pos (wanted_of rfl rfl rfl kg)]
            intro K hK
            have q1 := hout 1 (outB_spec (by kernel_rfl))
            refine wp_mv _ rfl (hK _ _ ?_)
            rw [show a.eval (.tmp 1) = .pointer (some ⟨gb, 0, none⟩) from q1]
            exact hJ.plain (by decide) (by decide) (Ex.refl _) (fun x hx => by rw [hT] at hx; first | exact Option.some.inj hx | simpa using hx)
          · have kg := (hdep ⟨15, .guard⟩ (by simp) rfl).2 _ rfl _ rfl
            rw [show f 15 = _ from hJ.vals 15 (hdep ⟨15, .guard⟩ (by simp) rfl).1 (.bool false) (by rw [hT]; rfl)] at kg
            rw [if_pos (wanted_of rfl rfl rfl kg)]
            intro K hK
            have q5 := hout 5 (outB_spec (by kernel_rfl))
            refine wp_mv _ rfl (hK _ _ ?_)
            rw [show a.eval (.tmp 5) = .int .i64 i from q5]
            exact hJ.plain (by decide) (by decide) (Ex.refl _) (fun x hx => by rw [hT] at hx; first | exact Option.some.inj hx | simpa using hx)
          · have kg := (hdep ⟨15, .guard⟩ (by simp) rfl).2 _ rfl _ rfl
            rw [show f 15 = _ from hJ.vals 15 (hdep ⟨15, .guard⟩ (by simp) rfl).1 (.bool false) (by rw [hT]; rfl)] at kg
            rw [if_pos (wanted_of rfl rfl rfl kg)]
            intro K hK
            have q38 := (hdep ⟨23, .data⟩ (by simp) rfl).2 _ rfl _ rfl
            rw [show f 23 = _ from hJ.vals 23 (hdep ⟨23, .data⟩ (by simp) rfl).1 (.pointer (some ⟨gb, 0, none⟩)) (by rw [hT]; rfl)] at q38
            rw [Array.getD_eq_getD_getElem?] at q38
            clear hsz hdep hout hlat
            go_simp
            exact hK _ _ (hJ.plain (by decide) (by decide) (Ex.refl _) (fun x hx => by rw [hT] at hx; first | exact Option.some.inj hx | simpa using hx))
          · have kg := (hdep ⟨15, .guard⟩ (by simp) rfl).2 _ rfl _ rfl
            rw [show f 15 = _ from hJ.vals 15 (hdep ⟨15, .guard⟩ (by simp) rfl).1 (.bool false) (by rw [hT]; rfl)] at kg
            rw [if_pos (wanted_of rfl rfl rfl kg)]
            intro K hK
            have q40 := (hdep ⟨25, .data⟩ (by simp) rfl).2 _ rfl _ rfl
            rw [show f 25 = _ from hJ.vals 25 (hdep ⟨25, .data⟩ (by simp) rfl).1 (.pointer (some ⟨gb, 0, none⟩)) (by rw [hT]; rfl)] at q40
            rw [Array.getD_eq_getD_getElem?] at q40
            clear hsz hdep hout hlat
            go_simp
            exact hK _ _ (hJ.plain (by decide) (by decide) (Ex.refl _) (fun x hx => by rw [hT] at hx; first | exact Option.some.inj hx | simpa using hx))
          · have kg := (hdep ⟨15, .guard⟩ (by simp) rfl).2 _ rfl _ rfl
            rw [show f 15 = _ from hJ.vals 15 (hdep ⟨15, .guard⟩ (by simp) rfl).1 (.bool false) (by rw [hT]; rfl)] at kg
            rw [if_pos (wanted_of rfl rfl rfl kg)]
            intro K hK
            have q41 := (hdep ⟨26, .data⟩ (by simp) rfl).2 _ rfl _ rfl
            rw [show f 26 = _ from hJ.vals 26 (hdep ⟨26, .data⟩ (by simp) rfl).1 (.pointer (some ⟨gb, 0, none⟩)) (by rw [hT]; rfl)] at q41
            have q39 := (hdep ⟨24, .data⟩ (by simp) rfl).2 _ rfl _ rfl
            rw [show f 24 = _ from hJ.vals 24 (hdep ⟨24, .data⟩ (by simp) rfl).1 (.int .i64 i) (by rw [hT]; rfl)] at q39
            rw [Array.getD_eq_getD_getElem?] at q41
            rw [Array.getD_eq_getD_getElem?] at q39
            clear hsz hdep hout hlat
            have z0 := Z0.out
            have z1 := Z1.out
            go_simp
            exact hK _ _ (hJ.plain (by decide) (by decide) (Ex.refl _) (fun x hx => by rw [hT] at hx; first | exact Option.some.inj hx | simpa using hx))
          · have kg := (hdep ⟨15, .guard⟩ (by simp) rfl).2 _ rfl _ rfl
            rw [show f 15 = _ from hJ.vals 15 (hdep ⟨15, .guard⟩ (by simp) rfl).1 (.bool false) (by rw [hT]; rfl)] at kg
            rw [if_pos (wanted_of rfl rfl rfl kg)]
            intro K hK
            have q42 := (hdep ⟨27, .data⟩ (by simp) rfl).2 _ rfl _ rfl
            rw [show f 27 = _ from hJ.vals 27 (hdep ⟨27, .data⟩ (by simp) rfl).1 (.pointer (some ⟨gb, i * 2, none⟩)) (by rw [hT]; rfl)] at q42
            rw [Array.getD_eq_getD_getElem?] at q42
            clear hsz hdep hout hlat
            have z0 := Z0.out
            have z1 := Z1.out
            go_simp
            exact hK _ _ (hJ.plain (by decide) (by decide) (Ex.refl _) (fun x hx => by rw [hT] at hx; first | exact Option.some.inj hx | simpa using hx))
          · have kg := (hdep ⟨15, .guard⟩ (by simp) rfl).2 _ rfl _ rfl
            rw [show f 15 = _ from hJ.vals 15 (hdep ⟨15, .guard⟩ (by simp) rfl).1 (.bool false) (by rw [hT]; rfl)] at kg
            rw [if_pos (wanted_of rfl rfl rfl kg)]
            intro K hK
            have q43 := (hdep ⟨28, .data⟩ (by simp) rfl).2 _ rfl _ rfl
            rw [show f 28 = _ from hJ.vals 28 (hdep ⟨28, .data⟩ (by simp) rfl).1 (.pointer (some ⟨gb, i * 2 + 1, none⟩)) (by rw [hT]; rfl)] at q43
            have f1 : w2.cell? ⟨gb, i * 2 + 1, none⟩ = some (.slice qa qn qc) := (hJ.ext.cell (p := ⟨gb, i * 2 + 1, none⟩) Lgb.out).trans CB1.out
            rw [Array.getD_eq_getD_getElem?] at q43
            clear hsz hdep hout hlat
            go_simp
            exact hK _ _ (hJ.plain (by decide) (by decide) (Ex.refl _) (fun x hx => by rw [hT] at hx; first | exact Option.some.inj hx | simpa using hx))
          · have kg := (hdep ⟨15, .guard⟩ (by simp) rfl).2 _ rfl _ rfl
            rw [show f 15 = _ from hJ.vals 15 (hdep ⟨15, .guard⟩ (by simp) rfl).1 (.bool false) (by rw [hT]; rfl)] at kg
            rw [if_pos (wanted_of rfl rfl rfl kg)]
            intro K hK
            have q37 := (hdep ⟨22, .data⟩ (by simp) rfl).2 _ rfl _ rfl
            rw [show f 22 = _ from hJ.vals 22 (hdep ⟨22, .data⟩ (by simp) rfl).1 (.slice pa pn pc) (by rw [hT]; rfl)] at q37
            have q44 := (hdep ⟨29, .data⟩ (by simp) rfl).2 _ rfl _ rfl
            rw [show f 29 = _ from hJ.vals 29 (hdep ⟨29, .data⟩ (by simp) rfl).1 (.slice qa qn qc) (by rw [hT]; rfl)] at q44
            rw [Array.getD_eq_getD_getElem?] at q37
            rw [Array.getD_eq_getD_getElem?] at q44
            have cm := Lib.hid (EQ.out w2 hJ.ext)
            clear hsz hdep hout hlat
            go_simp
            refine cm.out.mono ?_
            rintro e w3 ⟨rfl, rfl⟩
            exact hK _ _ (hJ.plain (by decide) (by decide) (Ex.refl _) (fun x hx => by rw [hT] at hx; first | exact Option.some.inj hx | simpa using hx))
          · have kg := (hdep ⟨15, .guard⟩ (by simp) rfl).2 _ rfl _ rfl
            rw [show f 15 = _ from hJ.vals 15 (hdep ⟨15, .guard⟩ (by simp) rfl).1 (.bool false) (by rw [hT]; rfl)] at kg
            rw [if_pos (wanted_of rfl rfl rfl kg)]
            intro K hK
            have q45 := (hdep ⟨30, .data⟩ (by simp) rfl).2 _ rfl _ rfl
            rw [show f 30 = _ from hJ.vals 30 (hdep ⟨30, .data⟩ (by simp) rfl).1 (.bool eqb) (by rw [hT]; rfl)] at q45
            rw [Array.getD_eq_getD_getElem?] at q45
            clear hsz hdep hout hlat
            go_simp
            exact hK _ _ (hJ.plain (by decide) (by decide) (Ex.refl _) (fun x hx => by rw [hT] at hx; first | exact Option.some.inj hx | simpa using hx))
          · rw [if_pos (by rfl)]
            intro K hK
            have q30 := (hdep ⟨15, .data⟩ (by simp) rfl).2 _ rfl _ rfl
            rw [show f 15 = _ from hJ.vals 15 (hdep ⟨15, .data⟩ (by simp) rfl).1 (.bool false) (by rw [hT]; rfl)] at q30
            have q46 := (hdep ⟨31, .data⟩ (by simp) rfl).2 _ rfl _ rfl
            rw [show f 31 = _ from hJ.vals 31 (hdep ⟨31, .data⟩ (by simp) rfl).1 (.bool (!eqb)) (by rw [hT]; rfl)] at q46
            rw [Array.getD_eq_getD_getElem?] at q30
            rw [Array.getD_eq_getD_getElem?] at q46
            clear hsz hdep hout hlat
            go_simp
            exact hK _ _ (hJ.plain (by decide) (by decide) (Ex.refl _) (fun x hx => by rw [hT] at hx; first | exact Option.some.inj hx | simpa using hx))
        · intro listed f w2 hall hJ
          have f0 : f 0 = .pointer (some ⟨ga, 0, none⟩) := hJ.vals 0 (hall 0 (by simp)) _ (by rw [hT]; rfl)
          have f1 : f 1 = .int .i64 i := hJ.vals 1 (hall 1 (by simp)) _ (by rw [hT]; rfl)
          have f2 : f 2 = .pointer (some ⟨ga, 0, none⟩) := hJ.vals 2 (hall 2 (by simp)) _ (by rw [hT]; rfl)
          have f3 : f 3 = .pointer (some ⟨ga, 0, none⟩) := hJ.vals 3 (hall 3 (by simp)) _ (by rw [hT]; rfl)
          have f4 : f 4 = .pointer (some ⟨ga, i * 2, none⟩) := hJ.vals 4 (hall 4 (by simp)) _ (by rw [hT]; rfl)
          have f5 : f 5 = .pointer (some ⟨ga, i * 2, none⟩) := hJ.vals 5 (hall 5 (by simp)) _ (by rw [hT]; rfl)
          have f6 : f 6 = .bool true := hJ.vals 6 (hall 6 (by simp)) _ (by rw [hT]; rfl)
          have f7 : f 7 = .pointer (some ⟨gb, 0, none⟩) := hJ.vals 7 (hall 7 (by simp)) _ (by rw [hT]; rfl)
          have f8 : f 8 = .int .i64 i := hJ.vals 8 (hall 8 (by simp)) _ (by rw [hT]; rfl)
          have f9 : f 9 = .pointer (some ⟨gb, 0, none⟩) := hJ.vals 9 (hall 9 (by simp)) _ (by rw [hT]; rfl)
          have f10 : f 10 = .pointer (some ⟨gb, 0, none⟩) := hJ.vals 10 (hall 10 (by simp)) _ (by rw [hT]; rfl)
          have f11 : f 11 = .pointer (some ⟨gb, i * 2, none⟩) := hJ.vals 11 (hall 11 (by simp)) _ (by rw [hT]; rfl)
          have f12 : f 12 = .pointer (some ⟨gb, i * 2, none⟩) := hJ.vals 12 (hall 12 (by simp)) _ (by rw [hT]; rfl)
          have f13 : f 13 = .bool true := hJ.vals 13 (hall 13 (by simp)) _ (by rw [hT]; rfl)
          have f14 : f 14 = .bool false := hJ.vals 14 (hall 14 (by simp)) _ (by rw [hT]; rfl)
          have f15 : f 15 = .bool false := hJ.vals 15 (hall 15 (by simp)) _ (by rw [hT]; rfl)
          have f16 : f 16 = .pointer (some ⟨ga, 0, none⟩) := hJ.vals 16 (hall 16 (by simp)) _ (by rw [hT]; rfl)
          have f17 : f 17 = .int .i64 i := hJ.vals 17 (hall 17 (by simp)) _ (by rw [hT]; rfl)
          have f18 : f 18 = .pointer (some ⟨ga, 0, none⟩) := hJ.vals 18 (hall 18 (by simp)) _ (by rw [hT]; rfl)
          have f19 : f 19 = .pointer (some ⟨ga, 0, none⟩) := hJ.vals 19 (hall 19 (by simp)) _ (by rw [hT]; rfl)
          have f20 : f 20 = .pointer (some ⟨ga, i * 2, none⟩) := hJ.vals 20 (hall 20 (by simp)) _ (by rw [hT]; rfl)
          have f21 : f 21 = .pointer (some ⟨ga, i * 2 + 1, none⟩) := hJ.vals 21 (hall 21 (by simp)) _ (by rw [hT]; rfl)
          have f22 : f 22 = .slice pa pn pc := hJ.vals 22 (hall 22 (by simp)) _ (by rw [hT]; rfl)
          have f23 : f 23 = .pointer (some ⟨gb, 0, none⟩) := hJ.vals 23 (hall 23 (by simp)) _ (by rw [hT]; rfl)
          have f24 : f 24 = .int .i64 i := hJ.vals 24 (hall 24 (by simp)) _ (by rw [hT]; rfl)
          have f25 : f 25 = .pointer (some ⟨gb, 0, none⟩) := hJ.vals 25 (hall 25 (by simp)) _ (by rw [hT]; rfl)
          have f26 : f 26 = .pointer (some ⟨gb, 0, none⟩) := hJ.vals 26 (hall 26 (by simp)) _ (by rw [hT]; rfl)
          have f27 : f 27 = .pointer (some ⟨gb, i * 2, none⟩) := hJ.vals 27 (hall 27 (by simp)) _ (by rw [hT]; rfl)
          have f28 : f 28 = .pointer (some ⟨gb, i * 2 + 1, none⟩) := hJ.vals 28 (hall 28 (by simp)) _ (by rw [hT]; rfl)
          have f29 : f 29 = .slice qa qn qc := hJ.vals 29 (hall 29 (by simp)) _ (by rw [hT]; rfl)
          have f30 : f 30 = .bool eqb := hJ.vals 30 (hall 30 (by simp)) _ (by rw [hT]; rfl)
          have f31 : f 31 = .bool (!eqb) := hJ.vals 31 (hall 31 (by simp)) _ (by rw [hT]; rfl)
          have f32 : f 32 = .bool (!eqb) := hJ.vals 32 (hall 32 (by simp)) _ (by rw [hT]; rfl)
          have xw := hJ.ext
          simp only [putAll, Act.put, List.setIfInBounds_toArray, List.set_cons_zero, List.set_cons_succ, Nat.zero_add, Nat.reduceAdd]
          rw [f0, f1, f2, f3, f4, f5, f6, f7, f8, f9, f10, f11, f12, f13, f14, f15, f16, f17, f18, f19, f20, f21, f22, f23, f24, f25, f26, f27, f28, f29, f30, f31, f32]
          clear f0 f1 f2 f3 f4 f5 f6 f7 f8 f9 f10 f11 f12 f13 f14 f15 f16 f17 f18 f19 f20 f21 f22 f23 f24 f25 f26 f27 f28 f29 f30 f31 f32 hJ hall hT
          cases heq : eqb
          · have NE := Lib.hid (show decide (ca.now = cb.now) = false by
              refine decide_eq_false (fun h => ?_)
              have h1 := HXA.out
              rw [h, HXB.out] at h1
              have h2 := congrArg Prod.snd (Option.some.inj h1)
              have h3 := HEQ.out
              rw [heq] at h3
              exact (of_decide_eq_false h3.symm) h2.symm)
            clear heq
            go_wp2_with fail
            go_ret
            exact ⟨by rw [NE.out]; rfl, Ex.trans bw.out xw⟩
          · have h3 := HEQ.out
            rw [heq] at h3
            have TK := Lib.hid (take_eq _ _ i _ _ HXA.out HXB.out tk.out (by rw [of_decide_eq_true h3.symm]))
            have da2 := Lib.hid (DK.ext da.out xw)
            have db2 := Lib.hid (DK.ext db.out xw)
            have bw2 := Lib.hid (Ex.trans bw.out xw)
            clear heq h3 xw
            go_wp2_with fail
            go_roundw
            case rel => exact ⟨i + 1, by omega, by go_num, TK, da2, db2, bw2⟩
            case measure => simp [intOf]; omega
    · obtain rfl : i = 10 := by omega
      have YES := Lib.hid (show decide (ca.now = cb.now) = true by
        have h := tk.out
        rw [List.take_of_length_le (by rw [NA.out]; omega), List.take_of_length_le (by rw [NB.out]; omega)] at h
        exact decide_eq_true h)
      go_wp2_with fail
      go_ret
      exact ⟨by rw [YES.out]; rfl, bw.out⟩
end Go.Proofs.Ytgoiidpcdifojaa
