/- offices: Hold, Free, Take, At, First, Double -/
import Derived.Test.YtedljddjmojeeaaPd
namespace Go.Proofs.Ytedljddjmojeeaa
open Go.RowKit
theorem OB.cur {w : World} {O : Nat} {rv : Value} {ls : List (Bool × Lt)} (h : OB w O rv ls) (hn : 0 < ls.length) : ∃ g cap cur, rv = .slice (some ⟨g, 0, none⟩) ls.length cap ∧ O + 1 ≤ g ∧ Bk w g 20 cur ∧ ls.length ≤ cap ∧ cap ≤ maxLen ∧ cur.size = cap ∧ cur.toList.take ls.length = rowC ls := by
  obtain ⟨h1, h2 | ⟨g, cap, cur, e, hb, hh, hc, hm, hs, ht⟩⟩ := h.row
  · omega
  · exact ⟨g, cap, cur, e, hb, hh, hc, hm, by rw [hs, Nat.mul_one], by simpa using ht⟩
theorem OB.put {w w' : World} {O g cap : Nat} {ls : List (Bool × Lt)} {cur : Array Value} (h : OB w O (.slice (some ⟨g, 0, none⟩) ls.length cap) ls) (hg : O + 1 ≤ g) (hc : ls.length ≤ cap) (hm : cap ≤ maxLen) (hs : cur.size = cap) (ht : cur.toList.take ls.length = rowC ls)
    (n : Nat) (hn : n < ls.length) (y : Bool × Lt) (hy : LN w (O + 1) y.2) (hz : y.2.bs.l.length ≤ 8192) (hb : Bk w g 20 cur) (hb' : Bk w' g 20 (cur.toList.set n (ifc y)).toArray) (ho : Only g w w') : OB w' O (.slice (some ⟨g, 0, none⟩) (ls.set n y).length cap) (ls.set n y) := by
  have hf : FT O w w' := FT.md ho.md (by omega) hb (Or.inl rfl)
  refine ⟨ho.bk (by rw [List.length_set]; exact h.blk) (by omega), ?_, fun i x hx => ?_, by rw [List.length_set]; exact h.len, fun i x hx => ?_⟩
  · refine ⟨by simp [rowC], .inr ⟨g, cap, _, rfl, hg, hb', by rw [List.length_set]; exact hc, hm, by simp [hs], ?_⟩⟩
    have e : ((cur.toList.set n (ifc y)).toArray).toList.take ((ls.set n y).length * 1) = (cur.toList.take ls.length).set n (ifc y) := by
      rw [List.length_set, Nat.mul_one, List.take_set]
    rw [e, ht]; simp [rowC, List.map_set]
  · by_cases e : i = n
    · subst e
      rw [List.getElem?_set_self hn] at hx
      obtain rfl := Option.some.inj hx
      exact hy.ft hf
    · rw [List.getElem?_set_ne (Ne.symm e)] at hx
      exact (h.ins i x hx).ft hf
  · by_cases e : i = n
    · subst e
      rw [List.getElem?_set_self hn] at hx
      obtain rfl := Option.some.inj hx
      exact hz
    · rw [List.getElem?_set_ne (Ne.symm e)] at hx
      exact h.siz i x hx
theorem built_held (x : Lt) : Try.prog.built 113 [(0, x.V)] = some x.C.toArray := by
  obtain ⟨a, b, c, ad, cap, l⟩ := x
  kernel_rfl
theorem ctO_at {ls : List (Bool × Lt)} {n : Nat} {x : Bool × Lc} (h : (ctO ls)[n]? = some x) : ∃ y, ls[n]? = some y ∧ (y.1, y.2.ct) = x := by
  unfold ctO at h
  rw [List.getElem?_map] at h
  cases e : ls[n]? with
  | none => rw [e] at h; cases h
  | some y => rw [e] at h; exact ⟨y, rfl, Option.some.inj h⟩
theorem ctO_len (ls : List (Bool × Lt)) : (ctO ls).length = ls.length := by simp [ctO]
theorem ctO_set (ls : List (Bool × Lt)) (n : Nat) (y : Bool × Lt) : ctO (ls.set n y) = (ctO ls).set n (y.1, y.2.ct) := by unfold ctO; rw [List.map_set]
theorem held_any (O : Nat) (l : List (Bool × Lc)) (n : Nat) (x : Bool × Lc) (w : World) (h : OF w O l) (hx : l[n]? = some x) : Calls Try.prog 62 #[.pointer (some ⟨O, 0, none⟩), .int .i64 n] w fun e w' => e = .returned (.bool x.1) ∧ Ex w w' := by
  obtain ⟨rv, ls, h1, rfl⟩ := h
  obtain ⟨y, hy, rfl⟩ := ctO_at hx
  exact held_in O rv ls n y w h1 hy
theorem held_none (O : Nat) (l : List (Bool × Lc)) (i : Int) (w : World) (h : OF w O l) (hi : i < 0 ∨ (l.length : Int) ≤ i) : Calls Try.prog 62 #[.pointer (some ⟨O, 0, none⟩), .int .i64 i] w fun e w' => e = .returned (.bool false) ∧ Ex w w' := by
  obtain ⟨rv, ls, h1, rfl⟩ := h
  exact held_out O rv ls i w h1 (by rw [ctO_len] at hi; exact hi)
theorem hasO_any (O : Nat) (l : List (Bool × Lc)) (i : Int) (w : World) (h : OF w O l) : Calls Try.prog 61 #[.pointer (some ⟨O, 0, none⟩), .int .i64 i] w fun e w' => e = .returned (.bool (decide (0 ≤ i) && decide (i < (l.length : Int)))) ∧ w = w' := by
  obtain ⟨rv, ls, h1, rfl⟩ := h
  rw [ctO_len]
  exact has_any O rv ls i w h1
theorem lenO_any (O : Nat) (l : List (Bool × Lc)) (w : World) (h : OF w O l) : Calls Try.prog 38 #[.pointer (some ⟨O, 0, none⟩)] w fun e w' => e = .returned (.int .i64 l.length) ∧ w = w' := by
  obtain ⟨rv, ls, h1, rfl⟩ := h
  rw [ctO_len]
  exact plen_any O rv ls w h1
set_option maxHeartbeats 4000000 in
set_option maxRecDepth 100000 in
theorem hold_yes (O : Nat) (l : List (Bool × Lc)) (n : Nat) (x : Lc) (w : World) (h : OF w O l) (hx : l[n]? = some (false, x)) : Calls Try.prog 34 #[.pointer (some ⟨O, 0, none⟩), .int .i64 n] w (WPost O (l.set n (true, x)) true w) := by
  obtain ⟨rv, ls, OB0, hct⟩ := h
  rw [← hct] at hx
  obtain ⟨y, hy, hyc⟩ := ctO_at hx
  have hi := (List.getElem?_eq_some_iff.1 hy).1
  have CHH := Lib.hid (fun w1 (k : Ex w w1) => held_in O rv ls n y w1 (OB0.ext k) hy)
  have CL := Lib.hid (fun w1 (k : Ex w w1) => letter_any O rv ls n y w1 (OB0.ext k) hy)
  have CH := Lib.hid (has_any O rv ls n w OB0)
  rw [decide_eq_true (show (0 : Int) ≤ (n : Int) by omega), decide_eq_true (show (n : Int) < (ls.length : Int) by omega)] at CH
  rw [show y.1 = false from congrArg (·.1) hyc] at CHH
  obtain ⟨g, cap, cur, hrv, hg, hB, hc, hm, hs, ht⟩ := OB0.cur (by omega)
  subst hrv
  have HOB := Lib.hid OB0
  have HG := Lib.hid hg
  have HBk := Lib.hid hB
  have HC := Lib.hid (And.intro hc (And.intro hm (And.intro hs ht)))
  have HI := Lib.hid hi
  have HY := Lib.hid hyc
  have HYL := Lib.hid (OB0.ins n y hy)
  have HYS := Lib.hid (OB0.siz n y hy)
  have HCT := Lib.hid hct
  have q0 : (0 : Int) ≤ (n : Int) := by omega
  have q1 : (n : Int) < (ls.length : Int) := by omega
  clear OB0 hB hg hc hm hs ht hx hy hyc hct hi
  obtain ⟨m, hmm⟩ : ∃ m, m = ls.length := ⟨_, rfl⟩
  rw [← hmm] at q1
  have HM := Lib.hid hmm
  clear hmm
  go_enter Try.func34, Try.ntmps34
  go_wp2_with (first | (with_reducible refine stop_load (t := 70) ?_) | (with_reducible refine stop_store (t := 70) ?_) | (with_reducible refine stop_store (t := 113) ?_) | (with_reducible refine stop_load (t := 113) ?_) | (with_reducible refine stop_build (t := 70) ?_) | (with_reducible refine stop_store (t := 105) ?_))
  refine CH.out.mono ?_
  rintro e w1 ⟨rfl, rfl⟩
  clear CH
  go_wp2_with (first | (with_reducible refine stop_load (t := 70) ?_) | (with_reducible refine stop_store (t := 70) ?_) | (with_reducible refine stop_store (t := 113) ?_) | (with_reducible refine stop_load (t := 113) ?_) | (with_reducible refine stop_build (t := 70) ?_) | (with_reducible refine stop_store (t := 105) ?_))
  refine (CHH.out w (Ex.refl _)).mono ?_
  rintro e w1 ⟨rfl, x1⟩
  clear CHH
  go_wp2_with fail
  obtain ⟨T, hT⟩ : ∃ T : List Sa, T = [.is (.pointer (some ⟨O, 0, none⟩)), .is (.pointer (some ⟨O, 0, none⟩)), .is (.pointer (some ⟨O, 0, none⟩)), .is (.slice (some ⟨g, 0, none⟩) m cap), .is (.int .i64 n), .is (.pointer (some ⟨O, 0, none⟩)), .is (.int .i64 n), .is (y.2.V), .is (y.2.V), .is (.iface 113 y.2.V), .is (.pointer (some ⟨g, n, none⟩))] := ⟨_, rfl⟩
  refine wp_region_flow 11 (saPhi T) (by kernel_rfl) rfl (by kernel_rfl) (by kernel_rfl) (by kernel_rfl) (saPhi_stable T) (fitB_spec (by kernel_rfl)) ?_ ?_
  · intro i o hi ho
    have hi' : i = 0 ∨ i = 1 ∨ i = 2 ∨ i = 3 ∨ i = 4 ∨ i = 5 ∨ i = 6 ∨ i = 7 ∨ i = 8 ∨ i = 9 ∨ i = 10 := by omega
    clear hi
    rcases hi' with rfl | rfl | rfl | rfl | rfl | rfl | rfl | rfl | rfl | rfl | rfl
    all_goals (simp only [List.getElem?_toArray, List.getElem?_cons_zero, List.getElem?_cons_succ, Option.some.injEq] at ho; subst ho; intro a w2 hx hsz hdep hout)
    · rw [if_pos (by rfl)]
      intro K hK
      have q0 := hout 0 (outB_spec (by kernel_rfl))
      exact wp_mv _ rfl (hK _ _ (Ex.refl _) (by rw [hT]; exact q0))
    · rw [if_pos (by rfl)]
      intro K hK
      obtain ⟨v14, h14, k14⟩ := hdep ⟨0, .data⟩ (by simp) rfl _ rfl
      have q14 := k14 _ rfl
      clear k14
      rw [hT] at h14
      obtain rfl : v14 = .pointer (some ⟨O, 0, none⟩) := h14
      rw [Array.getD_eq_getD_getElem?] at q14
      clear hsz hdep hout
      go_simp
      exact hK _ _ (Ex.refl _) (by rw [hT]; rfl)
    · rw [if_pos (by rfl)]
      intro K hK
      obtain ⟨v15, h15, k15⟩ := hdep ⟨1, .data⟩ (by simp) rfl _ rfl
      have q15 := k15 _ rfl
      clear k15
      rw [hT] at h15
      obtain rfl : v15 = .pointer (some ⟨O, 0, none⟩) := h15
      rw [Array.getD_eq_getD_getElem?] at q15
      clear hsz hdep hout
      go_simp
      exact hK _ _ (Ex.refl _) (by rw [hT]; rfl)
    · rw [if_pos (by rfl)]
      intro K hK
      obtain ⟨v16, h16, k16⟩ := hdep ⟨2, .data⟩ (by simp) rfl _ rfl
      have q16 := k16 _ rfl
      clear k16
      rw [hT] at h16
      obtain rfl : v16 = .pointer (some ⟨O, 0, none⟩) := h16
      have c1 : w2.cell? ⟨O, 0, none⟩ = some (.slice (some ⟨g, 0, none⟩) m cap) := by rw [HM.out]; exact (HOB.out.ext (Ex.trans x1 (Ex.trans (show Ex w1 (World.drew w1) from (Below.refl _ _).drew) hx))).blk.cell 0
      rw [Array.getD_eq_getD_getElem?] at q16
      clear hsz hdep hout
      go_simp
      exact hK _ _ (Ex.refl _) (by rw [hT]; rfl)
    · rw [if_pos (by rfl)]
      intro K hK
      have q1 := hout 1 (outB_spec (by kernel_rfl))
      exact wp_mv _ rfl (hK _ _ (Ex.refl _) (by rw [hT]; exact q1))
    · rw [if_pos (by rfl)]
      intro K hK
      have q0 := hout 0 (outB_spec (by kernel_rfl))
      exact wp_mv _ rfl (hK _ _ (Ex.refl _) (by rw [hT]; exact q0))
    · rw [if_pos (by rfl)]
      intro K hK
      have q1 := hout 1 (outB_spec (by kernel_rfl))
      exact wp_mv _ rfl (hK _ _ (Ex.refl _) (by rw [hT]; exact q1))
    · rw [if_pos (by rfl)]
      intro K hK
      obtain ⟨v19, h19, k19⟩ := hdep ⟨5, .data⟩ (by simp) rfl _ rfl
      have q19 := k19 _ rfl
      clear k19
      rw [hT] at h19
      obtain rfl : v19 = .pointer (some ⟨O, 0, none⟩) := h19
      obtain ⟨v20, h20, k20⟩ := hdep ⟨6, .data⟩ (by simp) rfl _ rfl
      have q20 := k20 _ rfl
      clear k20
      rw [hT] at h20
      obtain rfl : v20 = .int .i64 n := h20
      rw [Array.getD_eq_getD_getElem?] at q19
      rw [Array.getD_eq_getD_getElem?] at q20
      clear hsz hdep hout
      go_simp
      refine (CL.out w2 (Ex.trans x1 (Ex.trans (show Ex w1 (World.drew w1) from (Below.refl _ _).drew) hx))).mono ?_
      rintro e w3 ⟨rfl, x3⟩
      exact hK _ _ x3 (by rw [hT]; rfl)
    · rw [if_pos (by rfl)]
      intro K hK
      obtain ⟨v21, h21, k21⟩ := hdep ⟨7, .data⟩ (by simp) rfl _ rfl
      have q21 := k21 _ rfl
      clear k21
      rw [hT] at h21
      obtain rfl : v21 = y.2.V := h21
      refine wp_build _ _ rfl _ ?_ (hK _ _ (Ex.refl _) (by rw [hT]; rfl))
      simp only [List.map_cons, List.map_nil, show a.eval (.tmp 21) = _ from q21]
      exact built_held y.2
    · rw [if_pos (by rfl)]
      intro K hK
      obtain ⟨v22, h22, k22⟩ := hdep ⟨8, .data⟩ (by simp) rfl _ rfl
      have q22 := k22 _ rfl
      clear k22
      rw [hT] at h22
      obtain rfl : v22 = y.2.V := h22
      rw [Array.getD_eq_getD_getElem?] at q22
      clear hsz hdep hout
      go_simp
      exact hK _ _ (Ex.refl _) (by rw [hT]; rfl)
    · rw [if_pos (by rfl)]
      intro K hK
      obtain ⟨v17, h17, k17⟩ := hdep ⟨3, .data⟩ (by simp) rfl _ rfl
      have q17 := k17 _ rfl
      clear k17
      rw [hT] at h17
      obtain rfl : v17 = .slice (some ⟨g, 0, none⟩) m cap := h17
      obtain ⟨v18, h18, k18⟩ := hdep ⟨4, .data⟩ (by simp) rfl _ rfl
      have q18 := k18 _ rfl
      clear k18
      rw [hT] at h18
      obtain rfl : v18 = .int .i64 n := h18
      rw [Array.getD_eq_getD_getElem?] at q17
      rw [Array.getD_eq_getD_getElem?] at q18
      clear hsz hdep hout
      go_simp
      exact hK _ _ (Ex.refl _) (by rw [hT]; first | rfl | simp)
  · intro a w2 hx hdef hsz hdone hout
    obtain ⟨v24, h24, k24⟩ := hdone 10 _ (by omega) rfl
    have q24 := k24 _ rfl
    clear k24
    rw [hT] at h24
    obtain rfl : v24 = .pointer (some ⟨g, n, none⟩) := h24
    obtain ⟨v23, h23, k23⟩ := hdone 9 _ (by omega) rfl
    have q23 := k23 _ rfl
    clear k23
    rw [hT] at h23
    obtain rfl : v23 = .iface 113 y.2.V := h23
    clear hdone hT
    have hA := arr_range a.tmps 25 hsz
    change a.tmps = #[a.tmps[0]?.getD undef, a.tmps[1]?.getD undef, a.tmps[2]?.getD undef, a.tmps[3]?.getD undef, a.tmps[4]?.getD undef, a.tmps[5]?.getD undef, a.tmps[6]?.getD undef, a.tmps[7]?.getD undef, a.tmps[8]?.getD undef, a.tmps[9]?.getD undef, a.tmps[10]?.getD undef, a.tmps[11]?.getD undef, a.tmps[12]?.getD undef, a.tmps[13]?.getD undef, a.tmps[14]?.getD undef, a.tmps[15]?.getD undef, a.tmps[16]?.getD undef, a.tmps[17]?.getD undef, a.tmps[18]?.getD undef, a.tmps[19]?.getD undef, a.tmps[20]?.getD undef, a.tmps[21]?.getD undef, a.tmps[22]?.getD undef, a.tmps[23]?.getD undef, a.tmps[24]?.getD undef] at hA
    have e0 := hout 0 (fun i o _ h => outB_spec (by kernel_rfl) i o h)
    have e1 := hout 1 (fun i o _ h => outB_spec (by kernel_rfl) i o h)
    have e2 := hout 2 (fun i o _ h => outB_spec (by kernel_rfl) i o h)
    have e3 := hout 3 (fun i o _ h => outB_spec (by kernel_rfl) i o h)
    have e4 := hout 4 (fun i o _ h => outB_spec (by kernel_rfl) i o h)
    have e5 := hout 5 (fun i o _ h => outB_spec (by kernel_rfl) i o h)
    have e6 := hout 6 (fun i o _ h => outB_spec (by kernel_rfl) i o h)
    have e7 := hout 7 (fun i o _ h => outB_spec (by kernel_rfl) i o h)
    have e8 := hout 8 (fun i o _ h => outB_spec (by kernel_rfl) i o h)
    have e9 := hout 9 (fun i o _ h => outB_spec (by kernel_rfl) i o h)
    have e10 := hout 10 (fun i o _ h => outB_spec (by kernel_rfl) i o h)
    have e11 := hout 11 (fun i o _ h => outB_spec (by kernel_rfl) i o h)
    have e12 := hout 12 (fun i o _ h => outB_spec (by kernel_rfl) i o h)
    have e13 := hout 13 (fun i o _ h => outB_spec (by kernel_rfl) i o h)
    simp only [Array.getD_eq_getD_getElem?, List.getElem?_toArray, List.getElem?_cons_zero, List.getElem?_cons_succ, Option.getD_some] at e0 e1 e2 e3 e4 e5 e6 e7 e8 e9 e10 e11 e12 e13
    rw [e0, e1, e2, e3, e4, e5, e6, e7, e8, e9, e10, e11, e12, e13] at hA
    clear e0 e1 e2 e3 e4 e5 e6 e7 e8 e9 e10 e11 e12 e13 hout
    have hds2 : a.defers = [] := hdef
    have ea : a = ⟨a.tmps, a.defers⟩ := rfl
    rw [Array.getD_eq_getD_getElem?] at q24
    rw [Array.getD_eq_getD_getElem?] at q23
    rw [hA, hds2, q24, q23] at ea
    clear hA hds2 q24 q23 hdef
    generalize a.tmps[14]?.getD undef = y14 at ea
    generalize a.tmps[15]?.getD undef = y15 at ea
    generalize a.tmps[16]?.getD undef = y16 at ea
    generalize a.tmps[17]?.getD undef = y17 at ea
    generalize a.tmps[18]?.getD undef = y18 at ea
    generalize a.tmps[19]?.getD undef = y19 at ea
    generalize a.tmps[20]?.getD undef = y20 at ea
    generalize a.tmps[21]?.getD undef = y21 at ea
    generalize a.tmps[22]?.getD undef = y22 at ea
    clear hsz
    subst ea
    have bx : Ex w1 w2 := Ex.trans (show Ex w1 (World.drew w1) from (Below.refl _ _).drew) hx
    unfold wpOp
    simp only [List.getElem?_toArray, List.getElem?_cons_zero, List.getElem?_cons_succ]
    rw [if_pos (by rfl)]
    left
    refine wp_st1 (C := cur.toList) _ _ g n (.iface 113 y.2.V) rfl rfl rfl (by rw [Array.toArray_toList]; exact HBk.out.ext (Ex.trans x1 bx)) (by have h1 := HC.out.1; have h2 := HC.out.2.2.1; have h3 := HI.out; simp; omega) (by kernel_rfl) rfl (fun w9 hd ho => ?_)
    have x2 := Ex.trans x1 bx
    have hob := OB.put (HOB.out.ext x2) HG.out HC.out.1 HC.out.2.1 HC.out.2.2.1 HC.out.2.2.2 n HI.out (true, y.2) (HYL.out.ext x2) HYS.out (HBk.out.ext x2) hd ho
    have HF := Lib.hid (show OF w9 O (l.set n (true, x)) from ⟨_, _, hob, by rw [ctO_set, show ctO ls = l from HCT.out, show y.2.ct = x from congrArg (·.2) HY.out]⟩)
    have HFT := Lib.hid (show FT O w w9 from (x2.ft (Nat.le_of_lt HOB.out.blk.lt)).trans (FT.md ho.md (by have := HG.out; omega) (HBk.out.ext x2) (Or.inl rfl)))
    clear hob hd ho x2 bx
    go_wp2_with fail
    go_ret
    exact ⟨rfl, HF.out, HFT.out⟩
set_option maxHeartbeats 4000000 in
set_option maxRecDepth 100000 in
theorem free_yes (O : Nat) (l : List (Bool × Lc)) (n : Nat) (x : Lc) (w : World) (h : OF w O l) (hx : l[n]? = some (true, x)) : Calls Try.prog 39 #[.pointer (some ⟨O, 0, none⟩), .int .i64 n] w (WPost O (l.set n (false, x)) true w) := by
  obtain ⟨rv, ls, OB0, hct⟩ := h
  rw [← hct] at hx
  obtain ⟨y, hy, hyc⟩ := ctO_at hx
  have hi := (List.getElem?_eq_some_iff.1 hy).1
  have CHH := Lib.hid (fun w1 (k : Ex w w1) => held_in O rv ls n y w1 (OB0.ext k) hy)
  have CL := Lib.hid (fun w1 (k : Ex w w1) => letter_any O rv ls n y w1 (OB0.ext k) hy)
  have CH := Lib.hid (has_any O rv ls n w OB0)
  rw [decide_eq_true (show (0 : Int) ≤ (n : Int) by omega), decide_eq_true (show (n : Int) < (ls.length : Int) by omega)] at CH
  rw [show y.1 = true from congrArg (·.1) hyc] at CHH
  obtain ⟨g, cap, cur, hrv, hg, hB, hc, hm, hs, ht⟩ := OB0.cur (by omega)
  subst hrv
  have HOB := Lib.hid OB0
  have HG := Lib.hid hg
  have HBk := Lib.hid hB
  have HC := Lib.hid (And.intro hc (And.intro hm (And.intro hs ht)))
  have HI := Lib.hid hi
  have HY := Lib.hid hyc
  have HYL := Lib.hid (OB0.ins n y hy)
  have HYS := Lib.hid (OB0.siz n y hy)
  have HCT := Lib.hid hct
  have q0 : (0 : Int) ≤ (n : Int) := by omega
  have q1 : (n : Int) < (ls.length : Int) := by omega
  clear OB0 hB hg hc hm hs ht hx hy hyc hct hi
  obtain ⟨m, hmm⟩ : ∃ m, m = ls.length := ⟨_, rfl⟩
  rw [← hmm] at q1
  have HM := Lib.hid hmm
  clear hmm
  go_enter Try.func39, Try.ntmps39
  go_wp2_with (first | (with_reducible refine stop_load (t := 70) ?_) | (with_reducible refine stop_store (t := 70) ?_) | (with_reducible refine stop_store (t := 113) ?_) | (with_reducible refine stop_load (t := 113) ?_) | (with_reducible refine stop_build (t := 70) ?_) | (with_reducible refine stop_store (t := 105) ?_))
  refine (CHH.out w (Ex.refl _)).mono ?_
  rintro e w1 ⟨rfl, x1⟩
  clear CHH CH
  go_wp2_with fail
  obtain ⟨T, hT⟩ : ∃ T : List Sa, T = [.is (.pointer (some ⟨O, 0, none⟩)), .is (.pointer (some ⟨O, 0, none⟩)), .is (.pointer (some ⟨O, 0, none⟩)), .is (.slice (some ⟨g, 0, none⟩) m cap), .is (.int .i64 n), .is (.pointer (some ⟨O, 0, none⟩)), .is (.int .i64 n), .is (y.2.V), .is (.iface 70 y.2.V), .is (.pointer (some ⟨g, n, none⟩))] := ⟨_, rfl⟩
  refine wp_region_flow 10 (saPhi T) (by kernel_rfl) rfl (by kernel_rfl) (by kernel_rfl) (by kernel_rfl) (saPhi_stable T) (fitB_spec (by kernel_rfl)) ?_ ?_
  · intro i o hi ho
    have hi' : i = 0 ∨ i = 1 ∨ i = 2 ∨ i = 3 ∨ i = 4 ∨ i = 5 ∨ i = 6 ∨ i = 7 ∨ i = 8 ∨ i = 9 := by omega
    clear hi
    rcases hi' with rfl | rfl | rfl | rfl | rfl | rfl | rfl | rfl | rfl | rfl
    all_goals (simp only [List.getElem?_toArray, List.getElem?_cons_zero, List.getElem?_cons_succ, Option.some.injEq] at ho; subst ho; intro a w2 hx hsz hdep hout)
    · rw [if_pos (by rfl)]
      intro K hK
      have q0 := hout 0 (outB_spec (by kernel_rfl))
      exact wp_mv _ rfl (hK _ _ (Ex.refl _) (by rw [hT]; exact q0))
    · rw [if_pos (by rfl)]
      intro K hK
      obtain ⟨v9, h9, k9⟩ := hdep ⟨0, .data⟩ (by simp) rfl _ rfl
      have q9 := k9 _ rfl
      clear k9
      rw [hT] at h9
      obtain rfl : v9 = .pointer (some ⟨O, 0, none⟩) := h9
      rw [Array.getD_eq_getD_getElem?] at q9
      clear hsz hdep hout
      go_simp
      exact hK _ _ (Ex.refl _) (by rw [hT]; rfl)
    · rw [if_pos (by rfl)]
      intro K hK
      obtain ⟨v10, h10, k10⟩ := hdep ⟨1, .data⟩ (by simp) rfl _ rfl
      have q10 := k10 _ rfl
      clear k10
      rw [hT] at h10
      obtain rfl : v10 = .pointer (some ⟨O, 0, none⟩) := h10
      rw [Array.getD_eq_getD_getElem?] at q10
      clear hsz hdep hout
      go_simp
      exact hK _ _ (Ex.refl _) (by rw [hT]; rfl)
    · rw [if_pos (by rfl)]
      intro K hK
      obtain ⟨v11, h11, k11⟩ := hdep ⟨2, .data⟩ (by simp) rfl _ rfl
      have q11 := k11 _ rfl
      clear k11
      rw [hT] at h11
      obtain rfl : v11 = .pointer (some ⟨O, 0, none⟩) := h11
      have c1 : w2.cell? ⟨O, 0, none⟩ = some (.slice (some ⟨g, 0, none⟩) m cap) := by rw [HM.out]; exact (HOB.out.ext (Ex.trans x1 (Ex.trans (show Ex w1 (World.drew w1) from (Below.refl _ _).drew) hx))).blk.cell 0
      rw [Array.getD_eq_getD_getElem?] at q11
      clear hsz hdep hout
      go_simp
      exact hK _ _ (Ex.refl _) (by rw [hT]; rfl)
    · rw [if_pos (by rfl)]
      intro K hK
      have q1 := hout 1 (outB_spec (by kernel_rfl))
      exact wp_mv _ rfl (hK _ _ (Ex.refl _) (by rw [hT]; exact q1))
    · rw [if_pos (by rfl)]
      intro K hK
      have q0 := hout 0 (outB_spec (by kernel_rfl))
      exact wp_mv _ rfl (hK _ _ (Ex.refl _) (by rw [hT]; exact q0))
    · rw [if_pos (by rfl)]
      intro K hK
      have q1 := hout 1 (outB_spec (by kernel_rfl))
      exact wp_mv _ rfl (hK _ _ (Ex.refl _) (by rw [hT]; exact q1))
    · rw [if_pos (by rfl)]
      intro K hK
      obtain ⟨v14, h14, k14⟩ := hdep ⟨5, .data⟩ (by simp) rfl _ rfl
      have q14 := k14 _ rfl
      clear k14
      rw [hT] at h14
      obtain rfl : v14 = .pointer (some ⟨O, 0, none⟩) := h14
      obtain ⟨v15, h15, k15⟩ := hdep ⟨6, .data⟩ (by simp) rfl _ rfl
      have q15 := k15 _ rfl
      clear k15
      rw [hT] at h15
      obtain rfl : v15 = .int .i64 n := h15
      rw [Array.getD_eq_getD_getElem?] at q14
      rw [Array.getD_eq_getD_getElem?] at q15
      clear hsz hdep hout
      go_simp
      refine (CL.out w2 (Ex.trans x1 (Ex.trans (show Ex w1 (World.drew w1) from (Below.refl _ _).drew) hx))).mono ?_
      rintro e w3 ⟨rfl, x3⟩
      exact hK _ _ x3 (by rw [hT]; rfl)
    · rw [if_pos (by rfl)]
      intro K hK
      obtain ⟨v16, h16, k16⟩ := hdep ⟨7, .data⟩ (by simp) rfl _ rfl
      have q16 := k16 _ rfl
      clear k16
      rw [hT] at h16
      obtain rfl : v16 = y.2.V := h16
      rw [Array.getD_eq_getD_getElem?] at q16
      clear hsz hdep hout
      go_simp
      exact hK _ _ (Ex.refl _) (by rw [hT]; rfl)
    · rw [if_pos (by rfl)]
      intro K hK
      obtain ⟨v12, h12, k12⟩ := hdep ⟨3, .data⟩ (by simp) rfl _ rfl
      have q12 := k12 _ rfl
      clear k12
      rw [hT] at h12
      obtain rfl : v12 = .slice (some ⟨g, 0, none⟩) m cap := h12
      obtain ⟨v13, h13, k13⟩ := hdep ⟨4, .data⟩ (by simp) rfl _ rfl
      have q13 := k13 _ rfl
      clear k13
      rw [hT] at h13
      obtain rfl : v13 = .int .i64 n := h13
      rw [Array.getD_eq_getD_getElem?] at q12
      rw [Array.getD_eq_getD_getElem?] at q13
      clear hsz hdep hout
      go_simp
      exact hK _ _ (Ex.refl _) (by rw [hT]; first | rfl | simp)
  · intro a w2 hx hdef hsz hdone hout
    obtain ⟨v18, h18, k18⟩ := hdone 9 _ (by omega) rfl
    have q18 := k18 _ rfl
    clear k18
    rw [hT] at h18
    obtain rfl : v18 = .pointer (some ⟨g, n, none⟩) := h18
    obtain ⟨v17, h17, k17⟩ := hdone 8 _ (by omega) rfl
    have q17 := k17 _ rfl
    clear k17
    rw [hT] at h17
    obtain rfl : v17 = .iface 70 y.2.V := h17
    clear hdone hT
    have hA := arr_range a.tmps 19 hsz
    change a.tmps = #[a.tmps[0]?.getD undef, a.tmps[1]?.getD undef, a.tmps[2]?.getD undef, a.tmps[3]?.getD undef, a.tmps[4]?.getD undef, a.tmps[5]?.getD undef, a.tmps[6]?.getD undef, a.tmps[7]?.getD undef, a.tmps[8]?.getD undef, a.tmps[9]?.getD undef, a.tmps[10]?.getD undef, a.tmps[11]?.getD undef, a.tmps[12]?.getD undef, a.tmps[13]?.getD undef, a.tmps[14]?.getD undef, a.tmps[15]?.getD undef, a.tmps[16]?.getD undef, a.tmps[17]?.getD undef, a.tmps[18]?.getD undef] at hA
    have e0 := hout 0 (fun i o _ h => outB_spec (by kernel_rfl) i o h)
    have e1 := hout 1 (fun i o _ h => outB_spec (by kernel_rfl) i o h)
    have e2 := hout 2 (fun i o _ h => outB_spec (by kernel_rfl) i o h)
    have e3 := hout 3 (fun i o _ h => outB_spec (by kernel_rfl) i o h)
    have e4 := hout 4 (fun i o _ h => outB_spec (by kernel_rfl) i o h)
    have e5 := hout 5 (fun i o _ h => outB_spec (by kernel_rfl) i o h)
    have e6 := hout 6 (fun i o _ h => outB_spec (by kernel_rfl) i o h)
    have e7 := hout 7 (fun i o _ h => outB_spec (by kernel_rfl) i o h)
    have e8 := hout 8 (fun i o _ h => outB_spec (by kernel_rfl) i o h)
    simp only [Array.getD_eq_getD_getElem?, List.getElem?_toArray, List.getElem?_cons_zero, List.getElem?_cons_succ, Option.getD_some] at e0 e1 e2 e3 e4 e5 e6 e7 e8
    rw [e0, e1, e2, e3, e4, e5, e6, e7, e8] at hA
    clear e0 e1 e2 e3 e4 e5 e6 e7 e8 hout
    have hds2 : a.defers = [] := hdef
    have ea : a = ⟨a.tmps, a.defers⟩ := rfl
    rw [Array.getD_eq_getD_getElem?] at q18
    rw [Array.getD_eq_getD_getElem?] at q17
    rw [hA, hds2, q18, q17] at ea
    clear hA hds2 q18 q17 hdef
    generalize a.tmps[9]?.getD undef = y9 at ea
    generalize a.tmps[10]?.getD undef = y10 at ea
    generalize a.tmps[11]?.getD undef = y11 at ea
    generalize a.tmps[12]?.getD undef = y12 at ea
    generalize a.tmps[13]?.getD undef = y13 at ea
    generalize a.tmps[14]?.getD undef = y14 at ea
    generalize a.tmps[15]?.getD undef = y15 at ea
    generalize a.tmps[16]?.getD undef = y16 at ea
    clear hsz
    subst ea
    have bx : Ex w1 w2 := Ex.trans (show Ex w1 (World.drew w1) from (Below.refl _ _).drew) hx
    unfold wpOp
    simp only [List.getElem?_toArray, List.getElem?_cons_zero, List.getElem?_cons_succ]
    rw [if_pos (by rfl)]
    left
    refine wp_st1 (C := cur.toList) _ _ g n (.iface 70 y.2.V) rfl rfl rfl (by rw [Array.toArray_toList]; exact HBk.out.ext (Ex.trans x1 bx)) (by have h1 := HC.out.1; have h2 := HC.out.2.2.1; have h3 := HI.out; simp; omega) (by kernel_rfl) rfl (fun w9 hd ho => ?_)
    have x2 := Ex.trans x1 bx
    have hob := OB.put (HOB.out.ext x2) HG.out HC.out.1 HC.out.2.1 HC.out.2.2.1 HC.out.2.2.2 n HI.out (false, y.2) (HYL.out.ext x2) HYS.out (HBk.out.ext x2) hd ho
    have HF := Lib.hid (show OF w9 O (l.set n (false, x)) from ⟨_, _, hob, by rw [ctO_set, show ctO ls = l from HCT.out, show y.2.ct = x from congrArg (·.2) HY.out]⟩)
    have HFT := Lib.hid (show FT O w w9 from (x2.ft (Nat.le_of_lt HOB.out.blk.lt)).trans (FT.md ho.md (by have := HG.out; omega) (HBk.out.ext x2) (Or.inl rfl)))
    clear hob hd ho x2 bx
    go_wp2_with fail
    go_ret
    exact ⟨rfl, HF.out, HFT.out⟩
set_option maxHeartbeats 4000000 in
set_option maxRecDepth 100000 in
theorem hold_held (O : Nat) (l : List (Bool × Lc)) (n : Nat) (x : Lc) (w : World) (h : OF w O l) (hx : l[n]? = some (true, x)) : Calls Try.prog 34 #[.pointer (some ⟨O, 0, none⟩), .int .i64 n] w (WPost O l false w) := by
  have CH := Lib.hid (hasO_any O l n w h)
  have CHH := Lib.hid (held_any O l n (true, x) w h hx)
  have hi := (List.getElem?_eq_some_iff.1 hx).1
  rw [decide_eq_true (show (0 : Int) ≤ (n : Int) by omega), decide_eq_true (show (n : Int) < (l.length : Int) by omega)] at CH
  have HOF := Lib.hid h
  have HLT := Lib.hid h.lt
  clear h hx hi
  go_enter Try.func34, Try.ntmps34
  go_wp2_with (first | (with_reducible refine stop_load (t := 70) ?_) | (with_reducible refine stop_store (t := 70) ?_) | (with_reducible refine stop_store (t := 113) ?_) | (with_reducible refine stop_load (t := 113) ?_) | (with_reducible refine stop_build (t := 70) ?_) | (with_reducible refine stop_store (t := 105) ?_))
  refine CH.out.mono ?_
  rintro e w1 ⟨rfl, rfl⟩
  clear CH
  go_wp2_with (first | (with_reducible refine stop_load (t := 70) ?_) | (with_reducible refine stop_store (t := 70) ?_) | (with_reducible refine stop_store (t := 113) ?_) | (with_reducible refine stop_load (t := 113) ?_) | (with_reducible refine stop_build (t := 70) ?_) | (with_reducible refine stop_store (t := 105) ?_))
  refine CHH.out.mono ?_
  rintro e w1 ⟨rfl, x1⟩
  clear CHH
  go_wp2_with fail
  go_ret
  exact ⟨rfl, HOF.out.ext x1, x1.ft (Nat.le_of_lt HLT.out)⟩
def TPost (O : Nat) (l : List (Bool × Lc)) (c : Lc) (b : Bool) (w : World) (e : Ending) (w' : World) : Prop := ∃ x : Lt, e = .returned (.tuple #[x.V, .bool b]) ∧ x.ct = c ∧ LN w' (O + 1) x ∧ OF w' O l ∧ FT O w w'
theorem FT.fresh {O k : Nat} {w w1 w2 : World} (h : FT O w w1) (ho : Only k w1 w2) (hk : w.heap.size ≤ k) (hO : O ≤ k) : FT O w w2 :=
  ⟨ho.below O hO _ h.below, fun i cs t fr hi h1 h2 => by
    have hl := heap_lt hi
    exact (ho.other i (by omega)).trans (h.typ i cs t fr hi h1 h2), by rw [ho.size]; exact h.size⟩
theorem OB.far {w w' : World} {O k : Nat} {rv : Value} {ls : List (Bool × Lt)} {t : TypeId} {cs : Array Value} (h : OB w O rv ls) (ho : Only k w w') (hb : Bk w k t cs) (h1 : t ≠ 5) (h2 : t ≠ 20) (h3 : t ≠ 107) : OB w' O rv ls := by
  refine ⟨ho.bk h.blk (fun e => h3 (by rw [← e] at hb; exact hb.ty h.blk)), ?_, fun i x hx => ⟨(h.ins i x hx).1, (h.ins i x hx).2.onlyT ho hb h1⟩, h.len, h.siz⟩
  obtain ⟨k1, k2 | ⟨g, cap, cur, e, hg, hh, r⟩⟩ := h.row
  · exact ⟨k1, .inl k2⟩
  · exact ⟨k1, .inr ⟨g, cap, cur, e, hg, (ho.other g (fun e => h2 (by rw [← e] at hb; exact hb.ty hh))).trans hh, r⟩⟩
theorem OF.far {w w' : World} {O k : Nat} {l : List (Bool × Lc)} {t : TypeId} {cs : Array Value} (h : OF w O l) (ho : Only k w w') (hb : Bk w k t cs) (h1 : t ≠ 5) (h2 : t ≠ 20) (h3 : t ≠ 107) : OF w' O l := by
  obtain ⟨rv, ls, k1, k2⟩ := h; exact ⟨rv, ls, k1.far ho hb h1 h2 h3, k2⟩
theorem OB.del {w w4 w5 : World} {O g cap m n : Nat} {ls : List (Bool × Lt)} {cur : Array Value} (h : OB w O (.slice (some ⟨g, 0, none⟩) m cap) ls) (hm : m = ls.length) (hg : O + 1 ≤ g) (hc : m ≤ cap) (hx : cap ≤ maxLen) (ht : cur.toList.take m = rowC ls) (hb : Bk w g 20 cur)
    (hn : n < m) (hd : DelPost g m cap n (cur.toList.take m) w w4) (ho : Only O w4 w5) (hb5 : Bk w5 O 107 #[.slice (some ⟨g, 0, none⟩) (m - 1) cap]) : OB w5 O (.slice (some ⟨g, 0, none⟩) (m - 1) cap) (ls.eraseIdx n) ∧ FT O w w5 := by
  obtain ⟨⟨cur', hb', hs', ht'⟩, hmd⟩ := hd
  have hf : FT O w w5 := (FT.md hmd (by omega) hb (Or.inl rfl)).trans (FT.md ho.md (Nat.le_refl O) (hmd.bk h.blk (by omega)) (Or.inr rfl))
  have hl : (ls.eraseIdx n).length = m - 1 := by rw [List.length_eraseIdx_of_lt (by omega)]; omega
  have hmem : ∀ (i : Nat) (x : Bool × Lt), (ls.eraseIdx n)[i]? = some x → ∃ j, ls[j]? = some x := fun i x hx => by
    have := List.mem_of_mem_eraseIdx (List.mem_of_getElem? hx)
    obtain ⟨j, hj, e⟩ := List.getElem_of_mem this
    exact ⟨j, by rw [List.getElem?_eq_getElem hj, e]⟩
  refine ⟨⟨hb5, ?_, fun i x hx => ?_, by have := h.len; omega, fun i x hx => ?_⟩, hf⟩
  · refine ⟨by simp [rowC], .inr ⟨g, cap, cur', by rw [hl], hg, (ho.other g (by omega)).trans hb', by rw [hl]; omega, hx, by rw [hs', Nat.mul_one], ?_⟩⟩
    rw [hl, Nat.mul_one, ht', ht]
    unfold rowC
    rw [List.eraseIdx_eq_take_drop_succ, List.map_append, List.map_take, List.map_drop]
  · obtain ⟨j, hj⟩ := hmem i x hx
    exact (h.ins j x hj).ft hf
  · obtain ⟨j, hj⟩ := hmem i x hx
    exact h.siz j x hj
theorem ctO_erase (ls : List (Bool × Lt)) (n : Nat) : ctO (ls.eraseIdx n) = (ctO ls).eraseIdx n := by
  unfold ctO
  rw [List.eraseIdx_eq_take_drop_succ, List.eraseIdx_eq_take_drop_succ, List.map_append, List.map_take, List.map_drop]
theorem row_cells {xs : List (Bool × Lt)} : ∀ v ∈ rowC xs, v.oneCell' = true := by
  intro v hv
  unfold rowC at hv
  rw [List.mem_map] at hv
  obtain ⟨x, _, rfl⟩ := hv
  rfl
set_option maxHeartbeats 4000000 in
set_option maxRecDepth 100000 in
theorem take_yes (O : Nat) (l : List (Bool × Lc)) (n : Nat) (x : Lc) (w : World) (h : OF w O l) (hx : l[n]? = some (false, x)) : Calls Try.prog 37 #[.pointer (some ⟨O, 0, none⟩), .int .i64 n] w (TPost O (l.eraseIdx n) x true w) := by
  obtain ⟨rv, ls, OB0, hct⟩ := h
  rw [← hct] at hx
  obtain ⟨y, hy, hyc⟩ := ctO_at hx
  have hi := (List.getElem?_eq_some_iff.1 hy).1
  have xa : Ex w (w.alloc (.cells zeroLt.C.toArray 70)) := Ex.alloc _ _
  have hlt := OB0.blk.lt
  have HLT := Lib.hid hlt
  have CH := Lib.hid (fun w1 (k : Ex w w1) => has_any O rv ls n w1 (OB0.ext k))
  rw [decide_eq_true (show (0 : Int) ≤ (n : Int) by omega), decide_eq_true (show (n : Int) < (ls.length : Int) by omega)] at CH
  obtain ⟨g, cap, cur, hrv, hg, hB, hc, hm, hs, ht⟩ := OB0.cur (by omega)
  subst hrv
  have HOB := Lib.hid (OB0.ext xa)
  have HG := Lib.hid hg
  have HGW := Lib.hid (show g < w.heap.size from hB.lt)
  have HBk := Lib.hid (hB.ext xa)
  have HC := Lib.hid (And.intro hc (And.intro hm (And.intro hs ht)))
  have HI := Lib.hid hi
  have HY := Lib.hid hyc
  have HYL := Lib.hid ((OB0.ins n y hy).ext xa)
  have HCT := Lib.hid hct
  have HNY := Lib.hid hy
  have q0 : (0 : Int) ≤ (n : Int) := by omega
  have q1 : (n : Int) < (ls.length : Int) := by omega
  have BW := Lib.hid xa
  have Z0 : Hid (LX (w.alloc (.cells zeroLt.C.toArray 70)) w.heap.size 70 zeroLt) := Lib.hid ⟨zeroLt_ok, Bk.new rfl _ _⟩
  have hcx : cur[n]? = some (ifc y) := by
    have e : (cur.toList.take ls.length)[n]? = some (ifc y) := by rw [ht]; simp [rowC, hy]
    rw [List.getElem?_take, if_pos hi, Array.getElem?_toList] at e; exact e
  have cx : (w.alloc (.cells zeroLt.C.toArray 70)).cell? ⟨g, n, none⟩ = some (ifc y) := ((hB.ext xa).cell n).trans hcx
  have c0 : (w.alloc (.cells zeroLt.C.toArray 70)).cell? ⟨O, 0, none⟩ = some (.slice (some ⟨g, 0, none⟩) ls.length cap) := (OB0.blk.ext xa).cell 0
  clear OB0 hB hg hc hm hs ht hx hy hct hi xa hcx hlt
  unfold ifc at cx
  rw [show y.1 = false from congrArg (·.1) hyc] at cx
  simp only [Bool.false_eq_true, if_false, if_true] at cx
  clear hyc
  have a1 := as_hh
  have a2 := as_lh
  have a3 := as_hl
  have a4 := as_ll
  have a5 := as_l
  obtain ⟨m, hmm⟩ : ∃ m, m = ls.length := ⟨_, rfl⟩
  rw [← hmm] at q1 c0
  have HM := Lib.hid hmm
  clear hmm
  go_enter Try.func37, Try.ntmps37
  go_wp2_with (first | (with_reducible refine stop_load (t := 70) ?_) | (with_reducible refine stop_store (t := 70) ?_) | (with_reducible refine stop_store (t := 113) ?_) | (with_reducible refine stop_load (t := 113) ?_) | (with_reducible refine stop_build (t := 70) ?_) | (with_reducible refine stop_store (t := 105) ?_))
  skip
  refine (CH.out (w.alloc (.cells zeroLt.C.toArray 70)) BW.out).mono ?_
  rintro e w1 ⟨rfl, hw1⟩
  rw [hw1] at c0 cx HOB HBk HYL BW Z0
  clear hw1 CH
  go_wp2_with (first | (with_reducible refine stop_load (t := 70) ?_) | (with_reducible refine stop_store (t := 70) ?_) | (with_reducible refine stop_store (t := 113) ?_) | (with_reducible refine stop_load (t := 113) ?_) | (with_reducible refine stop_build (t := 70) ?_) | (with_reducible refine stop_store (t := 105) ?_))
  (with_reducible refine ⟨?_⟩); (with_reducible refine at_any ?_ ?_); (focus go_simp); refine fun K0 hK => st_lx _ _ w1.heap.size 70 Try.sizeLt y.2 rfl rfl rfl HYL.out.1 (Bk.new rfl _ _) (by rfl) (fun w3 hd ho => hK _ _ ?_)
  clear hK
  have HBW := Lib.hid HBk.out.lt
  have Z0W := Lib.hid Z0.out.2.lt
  have xx : Ex w1 w3 := ho.below w1.heap.size (Nat.le_refl _) w1 (Ex.alloc w1 _)
  replace HOB := Lib.hid (HOB.out.ext xx)
  replace HBk := Lib.hid (HBk.out.ext xx)
  replace HYL := Lib.hid (HYL.out.ext xx)
  replace Z0 := Lib.hid (Z0.out.ext xx)
  have HBG := Lib.hid (show g < w1.heap.size from HBW.out)
  have Z0G := Lib.hid (show w.heap.size < w1.heap.size from Z0W.out)
  replace BW := Lib.hid (Ex.trans BW.out xx)
  have H3 := Lib.hid hd
  clear c0 cx a1 a2 a3 a4 a5
  obtain ⟨g5, hg5⟩ : ∃ g, g = w1.heap.size := ⟨_, rfl⟩
  have G5 := Lib.hid (show g < g5 from by rw [hg5]; exact HBG.out)
  have G50 := Lib.hid (show w.heap.size < g5 from by rw [hg5]; exact Z0G.out)
  rw [← hg5] at H3 ⊢
  clear hg5 hd ho xx
  have c0 : w3.cell? ⟨O, 0, none⟩ = some (.slice (some ⟨g, 0, none⟩) m cap) := by rw [HM.out]; exact HOB.out.blk.cell 0
  have q7 : (n : Int) + 1 ≤ 9223372036854775807 := by have h1 := HOB.out.len; have h2 := HI.out; omega
  go_wp2_with (first | (with_reducible refine stop_load (t := 70) ?_) | (with_reducible refine stop_store (t := 70) ?_) | (with_reducible refine stop_store (t := 113) ?_) | (with_reducible refine stop_load (t := 113) ?_) | (with_reducible refine stop_build (t := 70) ?_) | (with_reducible refine stop_store (t := 105) ?_))
  refine (delete_any g m cap n cur w3 HBk.out HC.out.2.2.1 (by rw [HM.out]; exact HC.out.1) (by have := HC.out.2.1; unfold maxLen at this; exact this) (by rw [HM.out]; exact HI.out) (by rw [HM.out, HC.out.2.2.2]; exact row_cells)).mono ?_
  rintro e w4 ⟨rfl, hdel⟩
  have HDL := Lib.hid hdel
  clear hdel c0
  go_wp2_with (first | (with_reducible refine stop_load (t := 70) ?_) | (with_reducible refine stop_store (t := 70) ?_) | (with_reducible refine stop_store (t := 113) ?_) | (with_reducible refine stop_load (t := 113) ?_) | (with_reducible refine stop_build (t := 70) ?_) | (with_reducible refine stop_store (t := 105) ?_))
  (with_reducible refine ⟨?_⟩); (with_reducible refine at_any ?_ ?_); (focus go_simp); refine fun K0 hK => wp_st1 (C := [Value.slice (some ⟨g, 0, none⟩) m cap]) _ _ O 0 (.slice (some ⟨g, 0, none⟩) (m - 1) cap) rfl rfl rfl (HDL.out.md.bk (by rw [HM.out]; exact HOB.out.blk) (by have := HG.out; omega)) (by simp) (by kernel_rfl) rfl (fun w5 hd ho => hK _ _ ?_)
  clear hK
  have DL := OB.del (by rw [HM.out]; exact HOB.out) HM.out HG.out (by rw [HM.out]; exact HC.out.1) HC.out.2.1 (by rw [HM.out]; exact HC.out.2.2.2) HBk.out (by rw [HM.out]; exact HI.out) HDL.out ho hd
  have H5 : LX w5 g5 70 y.2 := ⟨H3.out.1, ho.bk (HDL.out.md.bk H3.out.2 (by have := G5.out; omega)) (by have := G5.out; have := HG.out; omega)⟩
  have Z5 : LX w5 w.heap.size 70 zeroLt := ⟨zeroLt_ok, ho.bk (HDL.out.md.bk Z0.out.2 (by have := HGW.out; omega)) (by have := HLT.out; omega)⟩
  have HOB5 := Lib.hid DL.1
  have HF5 := Lib.hid ((BW.out.ft (Nat.le_of_lt HLT.out)).trans DL.2)
  have HL5 := Lib.hid (HYL.out.ft DL.2)
  have H5 := Lib.hid H5
  have Z5 := Lib.hid Z5
  clear hd ho DL
  go_wp2_with (first | (with_reducible refine stop_load (t := 70) ?_) | (with_reducible refine stop_store (t := 70) ?_) | (with_reducible refine stop_store (t := 113) ?_) | (with_reducible refine stop_load (t := 113) ?_) | (with_reducible refine stop_build (t := 70) ?_) | (with_reducible refine stop_store (t := 105) ?_))
  (with_reducible refine ⟨?_⟩); (with_reducible refine at_any ?_ ?_); (focus go_simp); refine fun K0 hK => ld_lx _ _ 70 y.2 rfl rfl H5.out (hK _ _ ?_)
  clear hK
  go_wp2_with (first | (with_reducible refine stop_load (t := 70) ?_) | (with_reducible refine stop_store (t := 70) ?_) | (with_reducible refine stop_store (t := 113) ?_) | (with_reducible refine stop_load (t := 113) ?_) | (with_reducible refine stop_build (t := 70) ?_) | (with_reducible refine stop_store (t := 105) ?_))
  (with_reducible refine ⟨?_⟩); (with_reducible refine at_any ?_ ?_); (focus go_simp); refine fun K0 hK => st_lx _ _ w.heap.size 70 Try.sizeLt y.2 rfl rfl rfl H5.out.1 Z5.out.2 (by rfl) (fun w6 hd ho => hK _ _ ?_)
  clear hK
  have HF := Lib.hid (show OF w6 O (l.eraseIdx n) from ⟨_, _, HOB5.out.far ho Z5.out.2 (by decide) (by decide) (by decide), by rw [ctO_erase, show ctO ls = l from HCT.out]⟩)
  have HFT := Lib.hid (HF5.out.fresh ho (Nat.le_refl _) (Nat.le_of_lt HLT.out))
  have HL6 := Lib.hid (show LN w6 (O + 1) y.2 from ⟨HL5.out.1, HL5.out.2.onlyT ho Z5.out.2 (by decide)⟩)
  have HD := Lib.hid hd
  clear hd ho
  go_wp2_with fail
  exact bodyPost_ret (res_l2 rfl _ _ w.heap.size rfl y.2 HD.out) rfl ⟨y.2, rfl, congrArg (·.2) HY.out, HL6.out, HF.out, HFT.out⟩
set_option maxHeartbeats 4000000 in
set_option maxRecDepth 100000 in
theorem take_held (O : Nat) (l : List (Bool × Lc)) (n : Nat) (x : Lc) (w : World) (h : OF w O l) (hx : l[n]? = some (true, x)) : Calls Try.prog 37 #[.pointer (some ⟨O, 0, none⟩), .int .i64 n] w (TPost O l ⟨0, 0, 0, []⟩ false w) := by
  obtain ⟨rv, ls, OB0, hct⟩ := h
  rw [← hct] at hx
  obtain ⟨y, hy, hyc⟩ := ctO_at hx
  have hi := (List.getElem?_eq_some_iff.1 hy).1
  have xa : Ex w (w.alloc (.cells zeroLt.C.toArray 70)) := Ex.alloc _ _
  have hlt := OB0.blk.lt
  have HLT := Lib.hid hlt
  have CH := Lib.hid (fun w1 (k : Ex w w1) => has_any O rv ls n w1 (OB0.ext k))
  rw [decide_eq_true (show (0 : Int) ≤ (n : Int) by omega), decide_eq_true (show (n : Int) < (ls.length : Int) by omega)] at CH
  obtain ⟨g, cap, cur, hrv, hg, hB, hc, hm, hs, ht⟩ := OB0.cur (by omega)
  subst hrv
  have HOB := Lib.hid (OB0.ext xa)
  have HG := Lib.hid hg
  have HGW := Lib.hid (show g < w.heap.size from hB.lt)
  have HBk := Lib.hid (hB.ext xa)
  have HC := Lib.hid (And.intro hc (And.intro hm (And.intro hs ht)))
  have HI := Lib.hid hi
  have HY := Lib.hid hyc
  have HYL := Lib.hid ((OB0.ins n y hy).ext xa)
  have HCT := Lib.hid hct
  have HNY := Lib.hid hy
  have q0 : (0 : Int) ≤ (n : Int) := by omega
  have q1 : (n : Int) < (ls.length : Int) := by omega
  have BW := Lib.hid xa
  have Z0 : Hid (LX (w.alloc (.cells zeroLt.C.toArray 70)) w.heap.size 70 zeroLt) := Lib.hid ⟨zeroLt_ok, Bk.new rfl _ _⟩
  have hcx : cur[n]? = some (ifc y) := by
    have e : (cur.toList.take ls.length)[n]? = some (ifc y) := by rw [ht]; simp [rowC, hy]
    rw [List.getElem?_take, if_pos hi, Array.getElem?_toList] at e; exact e
  have cx : (w.alloc (.cells zeroLt.C.toArray 70)).cell? ⟨g, n, none⟩ = some (ifc y) := ((hB.ext xa).cell n).trans hcx
  have c0 : (w.alloc (.cells zeroLt.C.toArray 70)).cell? ⟨O, 0, none⟩ = some (.slice (some ⟨g, 0, none⟩) ls.length cap) := (OB0.blk.ext xa).cell 0
  clear OB0 hB hg hc hm hs ht hx hy hct hi xa hcx hlt
  unfold ifc at cx
  rw [show y.1 = true from congrArg (·.1) hyc] at cx
  simp only [Bool.false_eq_true, if_false, if_true] at cx
  clear hyc
  have a1 := as_hh
  have a2 := as_lh
  have a3 := as_hl
  have a4 := as_ll
  have a5 := as_l
  obtain ⟨m, hmm⟩ : ∃ m, m = ls.length := ⟨_, rfl⟩
  rw [← hmm] at q1 c0
  have HM := Lib.hid hmm
  clear hmm
  go_enter Try.func37, Try.ntmps37
  go_wp2_with (first | (with_reducible refine stop_load (t := 70) ?_) | (with_reducible refine stop_store (t := 70) ?_) | (with_reducible refine stop_store (t := 113) ?_) | (with_reducible refine stop_load (t := 113) ?_) | (with_reducible refine stop_build (t := 70) ?_) | (with_reducible refine stop_store (t := 105) ?_))
  skip
  refine (CH.out (w.alloc (.cells zeroLt.C.toArray 70)) BW.out).mono ?_
  rintro e w1 ⟨rfl, hw1⟩
  rw [hw1] at c0 cx HOB HBk HYL BW Z0
  clear hw1 CH
  go_wp2_with (first | (with_reducible refine stop_load (t := 70) ?_) | (with_reducible refine stop_store (t := 70) ?_) | (with_reducible refine stop_store (t := 113) ?_) | (with_reducible refine stop_load (t := 113) ?_) | (with_reducible refine stop_build (t := 70) ?_) | (with_reducible refine stop_store (t := 105) ?_))
  (with_reducible refine ⟨?_⟩); (with_reducible refine at_any ?_ ?_); (focus go_simp); refine fun K0 hK => st_lx _ _ w1.heap.size 70 Try.sizeLt zeroLt rfl rfl rfl zeroLt_ok (Bk.new rfl _ _) (by rfl) (fun w3 hd ho => hK _ _ ?_)
  clear hK
  have HBW := Lib.hid HBk.out.lt
  have Z0W := Lib.hid Z0.out.2.lt
  have xx : Ex w1 w3 := ho.below w1.heap.size (Nat.le_refl _) w1 (Ex.alloc w1 _)
  replace HOB := Lib.hid (HOB.out.ext xx)
  replace HBk := Lib.hid (HBk.out.ext xx)
  replace HYL := Lib.hid (HYL.out.ext xx)
  replace Z0 := Lib.hid (Z0.out.ext xx)
  have HBG := Lib.hid (show g < w1.heap.size from HBW.out)
  have Z0G := Lib.hid (show w.heap.size < w1.heap.size from Z0W.out)
  replace BW := Lib.hid (Ex.trans BW.out xx)
  have H3 := Lib.hid hd
  clear c0 cx a1 a2 a3 a4 a5
  obtain ⟨g5, hg5⟩ : ∃ g, g = w1.heap.size := ⟨_, rfl⟩
  rw [← hg5] at H3 ⊢
  clear hg5 hd ho xx
  go_wp2_with (first | (with_reducible refine stop_load (t := 70) ?_) | (with_reducible refine stop_store (t := 70) ?_) | (with_reducible refine stop_store (t := 113) ?_) | (with_reducible refine stop_load (t := 113) ?_) | (with_reducible refine stop_build (t := 70) ?_) | (with_reducible refine stop_store (t := 105) ?_))
  (with_reducible refine ⟨?_⟩); (with_reducible refine at_any ?_ ?_); (focus go_simp); refine fun K0 hK => wp_build _ _ rfl _ built_zl (hK _ _ ?_)
  clear hK
  go_wp2_with (first | (with_reducible refine stop_load (t := 70) ?_) | (with_reducible refine stop_store (t := 70) ?_) | (with_reducible refine stop_store (t := 113) ?_) | (with_reducible refine stop_load (t := 113) ?_) | (with_reducible refine stop_build (t := 70) ?_) | (with_reducible refine stop_store (t := 105) ?_))
  (with_reducible refine ⟨?_⟩); (with_reducible refine at_any ?_ ?_); (focus go_simp); refine fun K0 hK => st_lx _ _ w.heap.size 70 Try.sizeLt zeroLt rfl rfl rfl zeroLt_ok Z0.out.2 (by rfl) (fun w4 hd ho => hK _ _ ?_)
  clear hK
  have HF := Lib.hid (show OF w4 O l from ⟨_, ls, HOB.out.far ho Z0.out.2 (by decide) (by decide) (by decide), HCT.out⟩)
  have HFT := Lib.hid ((BW.out.ft (Nat.le_of_lt HLT.out)).fresh ho (Nat.le_refl _) (Nat.le_of_lt HLT.out))
  have HD := Lib.hid hd
  clear hd ho
  go_wp2_with fail
  exact bodyPost_ret (res_l2 rfl _ _ w.heap.size rfl zeroLt HD.out) rfl ⟨zeroLt, rfl, rfl, ⟨zeroLt_ok, nilB_pn _ _⟩, HF.out, HFT.out⟩
end Go.Proofs.Ytedljddjmojeeaa
