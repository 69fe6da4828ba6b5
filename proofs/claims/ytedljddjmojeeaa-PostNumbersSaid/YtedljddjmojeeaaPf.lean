/- offices: Take, Double, At where there is none; First -/
import Derived.Test.YtedljddjmojeeaaPe
namespace Go.Proofs.Ytedljddjmojeeaa
open Go.RowKit
theorem no_has {l : List (Bool × Lc)} {i : Int} (hi : i < 0 ∨ (l.length : Int) ≤ i) : (decide (0 ≤ i) && decide (i < (l.length : Int))) = false := by
  rw [Bool.and_eq_false_iff, decide_eq_false_iff_not, decide_eq_false_iff_not]; omega
theorem is_has {l : List (Bool × Lc)} {n : Nat} (h : n < l.length) : (decide ((0 : Int) ≤ (n : Int)) && decide ((n : Int) < (l.length : Int))) = true := by
  rw [Bool.and_eq_true, decide_eq_true_eq, decide_eq_true_eq]; omega
def AtPost (c : Lc) (b : Bool) (w : World) (e : Ending) (w' : World) : Prop := ∃ x : Lt, e = .returned (.tuple #[x.V, .bool b]) ∧ x.ct = c ∧ LN w' w.heap.size x ∧ Ex w w'
def firstO (l : List (Bool × Lc)) : Int := match l.findIdx? (fun x => !x.1) with | some k => k | none => -1
theorem firstO_at {l : List (Bool × Lc)} {k : Nat} {x : Lc} (h : l[k]? = some (false, x)) (hj : ∀ j, j < k → ∃ y, l[j]? = some (true, y)) : firstO l = k := by
  unfold firstO
  have hk := (List.getElem?_eq_some_iff.1 h).1
  have : l.findIdx? (fun x => !x.1) = some k := by
    rw [List.findIdx?_eq_some_iff_getElem]
    refine ⟨hk, ?_, fun j hjk => ?_⟩
    · rw [(List.getElem?_eq_some_iff.1 h).2]; rfl
    · obtain ⟨y, hy⟩ := hj j hjk
      rw [(List.getElem?_eq_some_iff.1 hy).2]; simp
  rw [this]
theorem firstO_none {l : List (Bool × Lc)} (hj : ∀ j, j < l.length → ∃ y, l[j]? = some (true, y)) : firstO l = -1 := by
  unfold firstO
  have : l.findIdx? (fun x => !x.1) = none := by
    rw [List.findIdx?_eq_none_iff]
    intro x hx
    obtain ⟨j, hjl, e⟩ := List.getElem_of_mem hx
    obtain ⟨y, hy⟩ := hj j hjl
    rw [List.getElem?_eq_getElem hjl, e] at hy
    rw [Option.some.inj hy]; rfl
  rw [this]
set_option maxHeartbeats 4000000 in
set_option maxRecDepth 100000 in
theorem take_none (O : Nat) (l : List (Bool × Lc)) (i : Int) (w : World) (h : OF w O l) (hi : i < 0 ∨ (l.length : Int) ≤ i) : Calls Try.prog 37 #[.pointer (some ⟨O, 0, none⟩), .int .i64 i] w (TPost O l ⟨0, 0, 0, []⟩ false w) := by
  have BW : Hid (Ex w (w.alloc (.cells zeroLt.C.toArray 70))) := Lib.hid (Ex.alloc _ _)
  have HLT := Lib.hid h.lt
  have CH := Lib.hid (hasO_any O l i _ (h.ext BW.out))
  rw [no_has hi] at CH
  have HOF := Lib.hid (h.ext BW.out)
  have Z0 : Hid (LX (w.alloc (.cells zeroLt.C.toArray 70)) w.heap.size 70 zeroLt) := Lib.hid ⟨zeroLt_ok, Bk.new rfl _ _⟩
  clear h hi
  go_enter Try.func37, Try.ntmps37
  go_wp2_with (first | (with_reducible refine stop_load (t := 70) ?_) | (with_reducible refine stop_store (t := 70) ?_) | (with_reducible refine stop_build (t := 70) ?_))
  refine CH.out.mono ?_
  rintro e w1 ⟨rfl, hw1⟩
  rw [hw1] at HOF BW Z0
  clear hw1 CH
  go_wp2_with (first | (with_reducible refine stop_load (t := 70) ?_) | (with_reducible refine stop_store (t := 70) ?_) | (with_reducible refine stop_build (t := 70) ?_))
  (with_reducible refine ⟨?_⟩); (with_reducible refine at_any ?_ ?_); (focus go_simp); refine fun K0 hK => wp_build _ _ rfl _ built_zl (hK _ _ ?_)
  clear hK
  go_wp2_with (first | (with_reducible refine stop_load (t := 70) ?_) | (with_reducible refine stop_store (t := 70) ?_) | (with_reducible refine stop_build (t := 70) ?_))
  (with_reducible refine ⟨?_⟩); (with_reducible refine at_any ?_ ?_); (focus go_simp); refine fun K0 hK => st_lx _ _ w.heap.size 70 Try.sizeLt zeroLt rfl rfl rfl zeroLt_ok Z0.out.2 (by rfl) (fun w4 hd ho => hK _ _ ?_)
  clear hK
  have HF := Lib.hid (HOF.out.far ho Z0.out.2 (by decide) (by decide) (by decide))
  have HFT := Lib.hid ((BW.out.ft (Nat.le_of_lt HLT.out)).fresh ho (Nat.le_refl _) (Nat.le_of_lt HLT.out))
  have HD := Lib.hid hd
  clear hd ho
  go_wp2_with fail
  exact bodyPost_ret (res_l2 rfl _ _ w.heap.size rfl zeroLt HD.out) rfl ⟨zeroLt, rfl, rfl, ⟨zeroLt_ok, nilB_pn _ _⟩, HF.out, HFT.out⟩
set_option maxHeartbeats 4000000 in
set_option maxRecDepth 100000 in
theorem at_none (O : Nat) (l : List (Bool × Lc)) (i : Int) (w : World) (h : OF w O l) (hi : i < 0 ∨ (l.length : Int) ≤ i) : Calls Try.prog 60 #[.pointer (some ⟨O, 0, none⟩), .int .i64 i] w (AtPost ⟨0, 0, 0, []⟩ false w) := by
  have BW : Hid (Ex w (w.alloc (.cells zeroLt.C.toArray 70))) := Lib.hid (Ex.alloc _ _)
  have HLT := Lib.hid h.lt
  have CH := Lib.hid (hasO_any O l i _ (h.ext BW.out))
  rw [no_has hi] at CH
  have HOF := Lib.hid (h.ext BW.out)
  have Z0 : Hid (LX (w.alloc (.cells zeroLt.C.toArray 70)) w.heap.size 70 zeroLt) := Lib.hid ⟨zeroLt_ok, Bk.new rfl _ _⟩
  clear h hi
  go_enter Try.func60, Try.ntmps60
  go_wp2_with (first | (with_reducible refine stop_load (t := 70) ?_) | (with_reducible refine stop_store (t := 70) ?_) | (with_reducible refine stop_build (t := 70) ?_))
  refine CH.out.mono ?_
  rintro e w1 ⟨rfl, hw1⟩
  rw [hw1] at HOF BW Z0
  clear hw1 CH
  go_wp2_with (first | (with_reducible refine stop_load (t := 70) ?_) | (with_reducible refine stop_store (t := 70) ?_) | (with_reducible refine stop_build (t := 70) ?_))
  (with_reducible refine ⟨?_⟩); (with_reducible refine at_any ?_ ?_); (focus go_simp); refine fun K0 hK => wp_build _ _ rfl _ built_zl (hK _ _ ?_)
  clear hK
  go_wp2_with (first | (with_reducible refine stop_load (t := 70) ?_) | (with_reducible refine stop_store (t := 70) ?_) | (with_reducible refine stop_build (t := 70) ?_))
  (with_reducible refine ⟨?_⟩); (with_reducible refine at_any ?_ ?_); (focus go_simp); refine fun K0 hK => st_lx _ _ w.heap.size 70 Try.sizeLt zeroLt rfl rfl rfl zeroLt_ok Z0.out.2 (by rfl) (fun w4 hd ho => hK _ _ ?_)
  clear hK
  have X := Lib.hid (ho.below w.heap.size (Nat.le_refl _) w BW.out)
  have HD := Lib.hid hd
  clear hd ho
  go_wp2_with fail
  exact bodyPost_ret (res_l2 rfl _ _ w.heap.size rfl zeroLt HD.out) rfl ⟨zeroLt, rfl, rfl, ⟨zeroLt_ok, nilB_pn _ _⟩, X.out⟩
set_option maxHeartbeats 4000000 in
set_option maxRecDepth 100000 in
theorem at_yes (O : Nat) (l : List (Bool × Lc)) (n : Nat) (b : Bool) (c : Lc) (w : World) (h : OF w O l) (hx : l[n]? = some (b, c)) : Calls Try.prog 60 #[.pointer (some ⟨O, 0, none⟩), .int .i64 n] w (AtPost c true w) := by
  have BW : Hid (Ex w (w.alloc (.cells zeroLt.C.toArray 70))) := Lib.hid (Ex.alloc _ _)
  have CH := Lib.hid (hasO_any O l n _ (h.ext BW.out))
  rw [is_has (List.getElem?_eq_some_iff.1 hx).1] at CH
  have Z0 : Hid (LX (w.alloc (.cells zeroLt.C.toArray 70)) w.heap.size 70 zeroLt) := Lib.hid ⟨zeroLt_ok, Bk.new rfl _ _⟩
  obtain ⟨rv, ls, OB0, hct⟩ := h
  rw [← hct] at hx
  obtain ⟨y, hy, hyc⟩ := ctO_at hx
  have CL := Lib.hid (fun w1 (k : Ex w w1) => letter_any O rv ls n y w1 (OB0.ext k) hy)
  have HY := Lib.hid (OB0.ins n y hy)
  have HZ := Lib.hid (OB0.siz n y hy)
  have HC := Lib.hid (congrArg (·.2) hyc : y.2.ct = c)
  clear OB0 hct hx hy hyc
  go_enter Try.func60, Try.ntmps60
  go_wp2_with (first | (with_reducible refine stop_load (t := 70) ?_) | (with_reducible refine stop_store (t := 70) ?_) | (with_reducible refine stop_build (t := 70) ?_))
  refine CH.out.mono ?_
  rintro e w1 ⟨rfl, hw1⟩
  rw [hw1] at BW Z0
  clear hw1 CH
  go_wp2_with (first | (with_reducible refine stop_load (t := 70) ?_) | (with_reducible refine stop_store (t := 70) ?_) | (with_reducible refine stop_build (t := 70) ?_))
  refine (CL.out w1 BW.out).mono ?_
  rintro e w2 ⟨rfl, xx⟩
  replace BW := Lib.hid (Ex.trans BW.out xx)
  replace Z0 := Lib.hid (Z0.out.ext xx)
  clear xx CL
  go_wp2_with (first | (with_reducible refine stop_load (t := 70) ?_) | (with_reducible refine stop_store (t := 70) ?_) | (with_reducible refine stop_build (t := 70) ?_))
  refine (ownl_any y.2 (by have := HZ.out; omega) w2 HY.out.1 (HY.out.2.ext BW.out).1).mono ?_
  rintro e w3 ⟨p, rfl, hp, hpn, xx⟩
  have HP := Lib.hid hp
  have HPN := Lib.hid (hpn.less BW.out.sz)
  replace BW := Lib.hid (Ex.trans BW.out xx)
  replace Z0 := Lib.hid (Z0.out.ext xx)
  clear xx hp hpn
  have YO : Hid (Lt.Ok { y.2 with bs := p }) := Lib.hid ⟨HY.out.1.kind0, HY.out.1.kind1, HY.out.1.frm0, HY.out.1.frm1, HY.out.1.to0, HY.out.1.to1⟩
  go_wp2_with (first | (with_reducible refine stop_load (t := 70) ?_) | (with_reducible refine stop_store (t := 70) ?_) | (with_reducible refine stop_build (t := 70) ?_))
  (with_reducible refine ⟨?_⟩); (with_reducible refine at_any ?_ ?_); (focus go_simp); refine fun K0 hK => st_lx _ _ w.heap.size 70 Try.sizeLt { y.2 with bs := p } rfl rfl rfl YO.out Z0.out.2 (by rfl) (fun w4 hd ho => hK _ _ ?_)
  clear hK
  have X := Lib.hid (ho.below w.heap.size (Nat.le_refl _) w BW.out)
  have HD := Lib.hid hd
  have P4 := Lib.hid (HPN.out.onlyT ho Z0.out.2 (by decide))
  clear hd ho
  go_wp2_with fail
  exact bodyPost_ret (res_l2 rfl _ _ w.heap.size rfl { y.2 with bs := p } HD.out) rfl ⟨{ y.2 with bs := p }, rfl, by rw [← HC.out]; simp only [Lt.ct, HP.out], ⟨YO.out, P4.out⟩, X.out⟩
set_option maxHeartbeats 4000000 in
set_option maxRecDepth 100000 in
theorem double_none (O : Nat) (l : List (Bool × Lc)) (i : Int) (w : World) (h : OF w O l) (hi : i < 0 ∨ (l.length : Int) ≤ i) : Calls Try.prog 40 #[.pointer (some ⟨O, 0, none⟩), .int .i64 i] w (WPost O l false w) := by
  have CH := Lib.hid (hasO_any O l i w h)
  rw [no_has hi] at CH
  have HOF := Lib.hid h
  clear h hi
  go_enter Try.func40, Try.ntmps40
  go_wp2_with (first | (with_reducible refine stop_load (t := 70) ?_) | (with_reducible refine stop_store (t := 70) ?_) | (with_reducible refine stop_build (t := 70) ?_))
  refine CH.out.mono ?_
  rintro e w1 ⟨rfl, rfl⟩
  clear CH
  go_wp2_with fail
  go_ret
  exact ⟨rfl, HOF.out, FT.refl _ _⟩
set_option maxHeartbeats 4000000 in
set_option maxRecDepth 100000 in
theorem double_any (O : Nat) (l : List (Bool × Lc)) (n : Nat) (b : Bool) (c : Lc) (w : World) (h : OF w O l) (hx : l[n]? = some (b, c)) : Calls Try.prog 40 #[.pointer (some ⟨O, 0, none⟩), .int .i64 n] w (WPost O (if decide (l.length < 64) = true then l ++ [(false, c)] else l) (decide (l.length < 64)) w) := by
  have CH := Lib.hid (hasO_any O l n w h)
  rw [is_has (List.getElem?_eq_some_iff.1 hx).1] at CH
  have HOF := Lib.hid h
  have HLT := Lib.hid h.lt
  obtain ⟨rv, ls, OB0, hct⟩ := h
  rw [← hct] at hx
  obtain ⟨y, hy, hyc⟩ := ctO_at hx
  have CL := Lib.hid (letter_any O rv ls n y w OB0 hy)
  have HY := Lib.hid (OB0.ins n y hy)
  have HZ := Lib.hid (OB0.siz n y hy)
  have HC := Lib.hid (congrArg (·.2) hyc : y.2.ct = c)
  have hcl : c.by_.length = y.2.bs.l.length := by rw [← HC.out]; rfl
  have HZ2 := HZ.out
  have HP := Lib.hid (fun w1 (k : Ex w w1) => put_any O l y.2 w1 (HOF.out.ext k) HY.out.1 (HY.out.2.ext k).1 (by omega))
  have e1 : canPut l.length y.2.bs.l.length = decide (l.length < 64) := by unfold canPut; rw [decide_eq_true HZ2, Bool.and_true]
  simp only [e1, HC.out] at HP
  obtain ⟨bb, hbb⟩ : ∃ b, b = decide (l.length < 64) := ⟨_, rfl⟩
  rw [← hbb] at HP ⊢
  obtain ⟨R, hR⟩ : ∃ R, R = if bb = true then l ++ [(false, c)] else l := ⟨_, rfl⟩
  rw [← hR]
  simp only [← hR] at HP
  clear OB0 hct hx hy hyc hcl HZ2 e1 hbb hR
  go_enter Try.func40, Try.ntmps40
  go_wp2_with (first | (with_reducible refine stop_load (t := 70) ?_) | (with_reducible refine stop_store (t := 70) ?_) | (with_reducible refine stop_build (t := 70) ?_))
  refine CH.out.mono ?_
  rintro e w1 ⟨rfl, rfl⟩
  clear CH
  go_wp2_with (first | (with_reducible refine stop_load (t := 70) ?_) | (with_reducible refine stop_store (t := 70) ?_) | (with_reducible refine stop_build (t := 70) ?_))
  refine CL.out.mono ?_
  rintro e w1 ⟨rfl, xx⟩
  clear CL
  have XX := Lib.hid xx
  clear xx
  go_wp2_with (first | (with_reducible refine stop_load (t := 70) ?_) | (with_reducible refine stop_store (t := 70) ?_) | (with_reducible refine stop_build (t := 70) ?_))
  refine (HP.out w1 XX.out).mono ?_
  rintro e w2 ⟨rfl, hof, hft⟩
  have H2 := Lib.hid hof
  have H3 := Lib.hid ((XX.out.ft (Nat.le_of_lt HLT.out)).trans hft)
  clear hof hft
  go_wp2_with fail
  go_ret
  exact ⟨rfl, H2.out, H3.out⟩
set_option maxHeartbeats 4000000 in
set_option maxRecDepth 100000 in
theorem first_any (O : Nat) (l : List (Bool × Lc)) (w : World) (h : OF w O l) : Calls Try.prog 36 #[.pointer (some ⟨O, 0, none⟩)] w fun e w' => e = .returned (.int .i64 (firstO l)) ∧ Ex w w' := by
  have CH := Lib.hid (fun w1 (k : Ex w w1) (n : Nat) (x : Bool × Lc) (hx : l[n]? = some x) => held_any O l n x w1 (h.ext k) hx)
  obtain ⟨rv, ls, OB0, hct⟩ := h
  have hlen : l.length = ls.length := by rw [← hct]; simp [ctO]
  obtain ⟨ad, cap, rfl, _⟩ := OB0.form
  have h64 : ls.length ≤ 64 := OB0.len
  have c0 : w.cell? ⟨O, 0, none⟩ = some (.slice ad ls.length cap) := OB0.blk.cell 0
  rw [← hlen] at c0 h64
  obtain ⟨m, hm⟩ : ∃ m, m = l.length := ⟨_, rfl⟩
  rw [← hm] at c0 h64
  have HM := Lib.hid hm
  clear hm hlen hct OB0
  go_enter Try.func36, Try.ntmps36
  go_wp2_with (first | (with_reducible refine stop_load (t := 70) ?_) | (with_reducible refine stop_store (t := 70) ?_) | (with_reducible refine stop_build (t := 70) ?_))
  go_loopw [9] (fun i wr => ∃ k : Nat, k ≤ m ∧ i = .int .i64 k ∧ Hid (∀ j, j < k → ∃ y, l[j]? = some (true, y)) ∧ Hid (Ex w wr)) (fun i _ => m - (intOf i).toNat)
  case atStart => exact ⟨0, by omega, rfl, Lib.hid (fun j hj => absurd hj (Nat.not_lt_zero j)), Lib.hid (Ex.refl _)⟩
  case round =>
    obtain ⟨k, hk, rfl, HJ, BW⟩ := hrel
    by_cases hlt2 : k < m
    · have q1 : (k : Int) < (m : Int) := by omega
      obtain ⟨x, hx⟩ : ∃ x, l[k]? = some x := ⟨_, List.getElem?_eq_getElem (by rw [← HM.out]; exact hlt2)⟩
      have HX := Lib.hid hx
      clear hx
      go_wp2_with (first | (with_reducible refine stop_load (t := 70) ?_) | (with_reducible refine stop_store (t := 70) ?_) | (with_reducible refine stop_build (t := 70) ?_))
      refine (CH.out wr BW.out k x HX.out).mono ?_
      rintro e w2 ⟨rfl, xx⟩
      replace BW := Lib.hid (Ex.trans BW.out xx)
      clear xx
      obtain ⟨hb, c⟩ := x
      cases hb
      case false =>
        skip
        go_wp2_with fail
        go_ret
        exact ⟨by rw [firstO_at HX.out HJ.out]; rfl, BW.out⟩
      case true =>
        skip
        go_wp2_with (first | (with_reducible refine stop_load (t := 70) ?_) | (with_reducible refine stop_store (t := 70) ?_) | (with_reducible refine stop_build (t := 70) ?_))
        go_roundw
        case rel => exact ⟨k + 1, by omega, by go_num, Lib.hid (fun j hj => by
          by_cases e : j = k
          · subst e; exact ⟨c, HX.out⟩
          · exact HJ.out j (by omega)), BW⟩
        case measure => simp [intOf]; omega
    · have q1 : ¬ (k : Int) < (m : Int) := by omega
      go_wp2_with fail
      go_ret
      exact ⟨by rw [firstO_none (fun j hj => HJ.out j (by have := HM.out; omega))]; rfl, BW.out⟩
end Go.Proofs.Ytedljddjmojeeaa
