/- offices: what is read of them -/
import Derived.Test.YtedljddjmojeeaaPa
namespace Go.Proofs.Ytedljddjmojeeaa
open Go.RowKit
def ifc (x : Bool × Lt) : Value := .iface (if x.1 = true then 113 else 70) x.2.V
def rowC (ls : List (Bool × Lt)) : List Value := ls.map ifc
theorem as_hh (v : Value) (w : World) : (Instr.typeAssert (.iface 113 v) 20 113 true).run Try.prog w = .ok (.tuple #[v, .bool true]) w := by kernel_rfl
theorem as_lh (v : Value) (w : World) : (Instr.typeAssert (.iface 70 v) 20 113 true).run Try.prog w = .ok (.tuple #[zeroLt.V, .bool false]) w := by kernel_rfl
theorem as_hl (v : Value) (w : World) : (Instr.typeAssert (.iface 113 v) 20 70 true).run Try.prog w = .ok (.tuple #[zeroLt.V, .bool false]) w := by kernel_rfl
theorem as_ll (v : Value) (w : World) : (Instr.typeAssert (.iface 70 v) 20 70 true).run Try.prog w = .ok (.tuple #[v, .bool true]) w := by kernel_rfl
theorem as_l (v : Value) (w : World) : (Instr.typeAssert (.iface 70 v) 20 70 false).run Try.prog w = .ok v w := by kernel_rfl
/-- an office: its block, its row, its letters -/
structure OB (w : World) (O : Nat) (rv : Value) (ls : List (Bool × Lt)) : Prop where
  blk : Bk w O 107 #[rv]
  row : w.ownsRow (O + 1) 20 1 rv ls.length (rowC ls)
  ins : ∀ (i : Nat) (x : Bool × Lt), ls[i]? = some x → LN w (O + 1) x.2
  len : ls.length ≤ 64
  siz : ∀ (i : Nat) (x : Bool × Lt), ls[i]? = some x → x.2.bs.l.length ≤ 8192
theorem OB.form {w : World} {O : Nat} {rv : Value} {ls : List (Bool × Lt)} (h : OB w O rv ls) : ∃ ad cap, rv = .slice ad ls.length cap ∧ ∀ (i : Nat) (x : Bool × Lt), ls[i]? = some x → ∃ g, ad = some ⟨g, 0, none⟩ ∧ w.cell? ⟨g, i, none⟩ = some (ifc x) ∧ O + 1 ≤ g ∧ ls.length ≤ cap := by
  have h' := h.row
  obtain ⟨h1, h2 | ⟨g, cap, cur, e, hb, hh, hc, hm, hs, ht⟩⟩ := h'
  · refine ⟨none, 0, ?_, fun i x hx => ?_⟩
    · rw [h2.1, h2.2]
    · have := (List.getElem?_eq_some_iff.1 hx).1
      rw [h2.2] at this; omega
  · refine ⟨some ⟨g, 0, none⟩, cap, e, fun i x hx => ⟨g, rfl, ?_, hb, hc⟩⟩
    have hi := (List.getElem?_eq_some_iff.1 hx).1
    have h3 := h.row
    rw [e] at h3
    have h4 := World.ownsRow.cellAt h3 i (by omega)
    rw [h4]
    simp [rowC, hx]
theorem OB.ext {w w' : World} {O : Nat} {rv : Value} {ls : List (Bool × Lt)} (h : OB w O rv ls) (k : Ex w w') : OB w' O rv ls := by
  refine ⟨h.blk.ext k, ?_, fun i x hx => (h.ins i x hx).ext k, h.len, h.siz⟩
  obtain ⟨h1, h2 | ⟨g, cap, cur, e, hb, hh, r⟩⟩ := h.row
  · exact ⟨h1, .inl h2⟩
  · exact ⟨h1, .inr ⟨g, cap, cur, e, hb, (k.block g (by
      rcases Nat.lt_or_ge g w.heap.size with hlt | hge
      · exact hlt
      · rw [Array.getElem?_eq_none hge] at hh; cases hh)).trans hh, r⟩⟩
set_option maxHeartbeats 4000000 in
set_option maxRecDepth 100000 in
theorem plen_any (O : Nat) (rv : Value) (ls : List (Bool × Lt)) (w : World) (h : OB w O rv ls) : Calls Try.prog 38 #[.pointer (some ⟨O, 0, none⟩)] w fun e w' => e = .returned (.int .i64 ls.length) ∧ w = w' := by
  obtain ⟨ad, cap, rfl, _⟩ := h.form
  have c0 : w.cell? ⟨O, 0, none⟩ = some (.slice ad ls.length cap) := h.blk.cell 0
  clear h
  go_enter Try.func38, Try.ntmps38
  go_wp2_with fail
  go_ret
  exact ⟨rfl, rfl⟩
set_option maxHeartbeats 4000000 in
set_option maxRecDepth 100000 in
theorem has_any (O : Nat) (rv : Value) (ls : List (Bool × Lt)) (i : Int) (w : World) (h : OB w O rv ls) : Calls Try.prog 61 #[.pointer (some ⟨O, 0, none⟩), .int .i64 i] w fun e w' => e = .returned (.bool (decide (0 ≤ i) && decide (i < (ls.length : Int)))) ∧ w = w' := by
  obtain ⟨ad, cap, rfl, _⟩ := h.form
  have c0 : w.cell? ⟨O, 0, none⟩ = some (.slice ad ls.length cap) := h.blk.cell 0
  clear h
  generalize ls.length = n at *
  by_cases h0 : 0 ≤ i
  · rw [decide_eq_true h0, Bool.true_and]
    go_enter Try.func61, Try.ntmps61
    go_wp2_with fail
    go_ret
    exact ⟨rfl, rfl⟩
  · rw [decide_eq_false h0, Bool.false_and]
    have hd : decide (0 ≤ i) = false := decide_eq_false h0
    go_enter Try.func61, Try.ntmps61
    go_wp2_with fail
    go_ret
    exact ⟨rfl, rfl⟩
theorem Try.sizeHd : (Try.prog.info? 113).map (·.size) = some 4 := by kernel_rfl
/-- a letter in a block of some kind -/
def LX (w : World) (g : Nat) (t : TypeId) (x : Lt) : Prop := x.Ok ∧ Bk w g t x.C.toArray
theorem LX.ext {w w' : World} {g : Nat} {t : TypeId} {x : Lt} (h : LX w g t x) (k : Ex w w') : LX w' g t x := ⟨h.1, h.2.ext k⟩
section
variable {o : Oper} {a : Act} {w : World} {K : Act → World → Prop} {Q : Exit → Act → World → Prop}
theorem st_lx (x y : Operand) (g : Nat) (t : TypeId) (hs : (Try.prog.info? t).map (·.size) = some 4) (v : Lt) (ho : o.op = .store t x y) (ha : a.eval x = .pointer (some ⟨g, 0, none⟩)) (hy : a.eval y = v.V) (hv : v.Ok)
    {Y : Array Value} (hB : Bk w g t Y) (hY : Y.size = 4) (hk : ∀ w', LX w' g t v → Only g w w' → K (a.put o.dst undef) w') : o.wp Try.prog a w K Q := by
  have hB' : Bk w g t Y.toList.toArray := by simpa using hB
  refine wp_stp v.C x y g 0 ho ha hy hB' (by rw [Lt.len hv]; simp [hY]) (by rw [hs, Lt.len hv]) v.ones (fun w' h1 h2 => hk w' ⟨hv, ?_⟩ h2)
  have e : Y.toList.take 0 ++ v.C ++ Y.toList.drop (0 + v.C.length) = v.C := by
    rw [List.take_zero, List.nil_append, List.drop_eq_nil_of_le (by rw [Lt.len hv]; simp [hY]), List.append_nil]
  rw [e] at h1; exact h1
theorem ld_lx (x : Operand) (g : Nat) (t : TypeId) (v : Lt) (ho : o.op = .load 70 x) (ha : a.eval x = .pointer (some ⟨g, 0, none⟩)) (h : LX w g t v) (hk : K (a.put o.dst v.V) w) : o.wp Try.prog a w K Q := by
  obtain ⟨dd, hd⟩ : ∃ d, Try.prog.underlying 70 = some d ∧ d.isRow = true := ⟨_, Try.underlying70, rfl⟩
  exact wp_ldp (C := v.C) v.C x g 0 dd ho ha h.2 (by simp) hd.1 hd.2 (by rw [Try.sizeLt, Lt.len h.1]) hk
end
set_option maxHeartbeats 4000000 in
set_option maxRecDepth 100000 in
theorem held_in (O : Nat) (rv : Value) (ls : List (Bool × Lt)) (i : Nat) (x : Bool × Lt) (w : World) (h : OB w O rv ls) (hx : ls[i]? = some x) : Calls Try.prog 62 #[.pointer (some ⟨O, 0, none⟩), .int .i64 i] w fun e w' => e = .returned (.bool x.1) ∧ Ex w w' := by
  have CH := Lib.hid (has_any O rv ls i w h)
  obtain ⟨ad, cap, rfl, hc⟩ := h.form
  have c0 : w.cell? ⟨O, 0, none⟩ = some (.slice ad ls.length cap) := h.blk.cell 0
  rw [decide_eq_true (show (0 : Int) ≤ (i : Int) by omega), decide_eq_true (show (i : Int) < (ls.length : Int) by have := (List.getElem?_eq_some_iff.1 hx).1; omega)] at CH
  obtain ⟨g, rfl, cx, _, _⟩ := hc i x hx
  have hi := (List.getElem?_eq_some_iff.1 hx).1
  have OK := Lib.hid (h.ins i x hx).1
  have q0 : (0 : Int) ≤ (i : Int) := by omega
  have q1 : (i : Int) < (ls.length : Int) := by omega
  clear h hc hx
  unfold ifc at cx
  have a1 := as_hh
  have a2 := as_lh
  have a3 := as_hl
  have a4 := as_ll
  have a5 := as_l
  generalize ls.length = n at *
  obtain ⟨hb, x⟩ := x
  simp only at cx OK ⊢
  cases hb
  case false =>
    simp only [Bool.false_eq_true, if_false, if_true] at cx
    go_enter Try.func62, Try.ntmps62
    go_wp2_with (first | (with_reducible refine stop_load (t := 70) ?_) | (with_reducible refine stop_store (t := 70) ?_) | (with_reducible refine stop_store (t := 113) ?_) | (with_reducible refine stop_load (t := 113) ?_))
    refine CH.out.mono ?_
    rintro e w2 ⟨rfl, rfl⟩
    clear CH
    go_wp2_with (first | (with_reducible refine stop_load (t := 70) ?_) | (with_reducible refine stop_store (t := 70) ?_) | (with_reducible refine stop_store (t := 113) ?_) | (with_reducible refine stop_load (t := 113) ?_))
    (with_reducible refine ⟨?_⟩); (with_reducible refine at_any ?_ ?_); (focus go_simp); refine fun K0 hK => st_lx _ _ w.heap.size 113 Try.sizeHd zeroLt rfl rfl rfl zeroLt_ok (Bk.new rfl _ _) (by rfl) (fun w3 hd ho => hK _ _ ?_)
    clear hK
    have X := ho.below w.heap.size (Nat.le_refl _) w (Ex.alloc w _)
    clear hd ho
    go_wp2_with fail
    go_ret
    exact ⟨rfl, X⟩
  case true =>
    simp only [Bool.false_eq_true, if_false, if_true] at cx
    go_enter Try.func62, Try.ntmps62
    go_wp2_with (first | (with_reducible refine stop_load (t := 70) ?_) | (with_reducible refine stop_store (t := 70) ?_) | (with_reducible refine stop_store (t := 113) ?_) | (with_reducible refine stop_load (t := 113) ?_))
    refine CH.out.mono ?_
    rintro e w2 ⟨rfl, rfl⟩
    clear CH
    go_wp2_with (first | (with_reducible refine stop_load (t := 70) ?_) | (with_reducible refine stop_store (t := 70) ?_) | (with_reducible refine stop_store (t := 113) ?_) | (with_reducible refine stop_load (t := 113) ?_))
    (with_reducible refine ⟨?_⟩); (with_reducible refine at_any ?_ ?_); (focus go_simp); refine fun K0 hK => st_lx _ _ w.heap.size 113 Try.sizeHd x rfl rfl rfl OK.out (Bk.new rfl _ _) (by rfl) (fun w3 hd ho => hK _ _ ?_)
    clear hK
    have X := ho.below w.heap.size (Nat.le_refl _) w (Ex.alloc w _)
    clear hd ho
    go_wp2_with fail
    go_ret
    exact ⟨rfl, X⟩
set_option maxHeartbeats 4000000 in
set_option maxRecDepth 100000 in
theorem held_out (O : Nat) (rv : Value) (ls : List (Bool × Lt)) (i : Int) (w : World) (h : OB w O rv ls) (hi : i < 0 ∨ (ls.length : Int) ≤ i) : Calls Try.prog 62 #[.pointer (some ⟨O, 0, none⟩), .int .i64 i] w fun e w' => e = .returned (.bool false) ∧ Ex w w' := by
  have CH := Lib.hid (has_any O rv ls i w h)
  have e : (decide (0 ≤ i) && decide (i < (ls.length : Int))) = false := by rw [Bool.and_eq_false_iff, decide_eq_false_iff_not, decide_eq_false_iff_not]; omega
  rw [e] at CH
  clear e hi h
  go_enter Try.func62, Try.ntmps62
  go_wp2_with (first | (with_reducible refine stop_load (t := 70) ?_) | (with_reducible refine stop_store (t := 70) ?_) | (with_reducible refine stop_store (t := 113) ?_) | (with_reducible refine stop_load (t := 113) ?_))
  refine CH.out.mono ?_
  rintro e w2 ⟨rfl, rfl⟩
  clear CH
  go_wp2_with fail
  go_ret
  exact ⟨rfl, Below.refl _ _⟩
set_option maxHeartbeats 4000000 in
set_option maxRecDepth 100000 in
theorem letter_any (O : Nat) (rv : Value) (ls : List (Bool × Lt)) (i : Nat) (x : Bool × Lt) (w : World) (h : OB w O rv ls) (hx : ls[i]? = some x) : Calls Try.prog 63 #[.pointer (some ⟨O, 0, none⟩), .int .i64 i] w fun e w' => e = .returned x.2.V ∧ Ex w w' := by
  obtain ⟨ad, cap, rfl, hc⟩ := h.form
  have hb0 := h.blk
  have hlt := hb0.lt
  obtain ⟨g, rfl, cx, hg1, _⟩ := hc i x hx
  have hi := (List.getElem?_eq_some_iff.1 hx).1
  have OK := Lib.hid (h.ins i x hx).1
  have q0 : (0 : Int) ≤ (i : Int) := by omega
  have q1 : (i : Int) < (ls.length : Int) := by omega
  have hgl : g < w.heap.size := World.block_lt_of_cell? w _ cx
  have xa : Ex w (w.alloc (.cells zeroLt.C.toArray 70)) := Ex.alloc _ _
  have Z0 : Hid (LX (w.alloc (.cells zeroLt.C.toArray 70)) w.heap.size 70 zeroLt) := Lib.hid ⟨zeroLt_ok, Bk.new rfl _ _⟩
  have c0 : (w.alloc (.cells zeroLt.C.toArray 70)).cell? ⟨O, 0, none⟩ = some (.slice (some ⟨g, 0, none⟩) ls.length cap) := (hb0.ext xa).cell 0
  have cx : (w.alloc (.cells zeroLt.C.toArray 70)).cell? ⟨g, i, none⟩ = some (ifc x) := (Below.cell (p := ⟨g, i, none⟩) xa hgl).trans cx
  have BW := Lib.hid xa
  have HO := Lib.hid hb0
  have CX := Lib.hid cx
  clear h hc hx xa hb0 hg1
  unfold ifc at cx
  have a1 := as_hh
  have a2 := as_lh
  have a3 := as_hl
  have a4 := as_ll
  have a5 := as_l
  generalize ls.length = n at *
  obtain ⟨hb, x⟩ := x
  simp only at cx OK CX ⊢
  cases hb
  case false =>
    simp only [Bool.false_eq_true, if_false, if_true] at cx
    go_enter Try.func63, Try.ntmps63
    go_wp2_with (first | (with_reducible refine stop_load (t := 105) ?_))
    (with_reducible refine ⟨?_⟩)
    change wpList _ _ _ _ _ (w.alloc (.cells zeroLt.C.toArray 70))
    generalize hw1 : (w.alloc (.cells zeroLt.C.toArray 70)) = w1 at *
    clear hw1
    go_wp2_with (first | (with_reducible refine stop_load (t := 70) ?_) | (with_reducible refine stop_store (t := 70) ?_) | (with_reducible refine stop_store (t := 113) ?_) | (with_reducible refine stop_load (t := 113) ?_))
    (with_reducible refine ⟨?_⟩); (with_reducible refine at_any ?_ ?_); (focus go_simp); refine fun K0 hK => st_lx _ _ w1.heap.size 113 Try.sizeHd zeroLt rfl rfl rfl zeroLt_ok (Bk.new rfl _ _) (by rfl) (fun w3 hd ho => hK _ _ ?_)
    clear hK
    have xx : Ex w1 w3 := ho.below w1.heap.size (Nat.le_refl _) w1 (Ex.alloc w1 _)
    replace Z0 := Lib.hid (Z0.out.ext xx)
    have c0 := (Below.cell (p := ⟨O, 0, none⟩) xx (by show O < w1.heap.size; have := BW.out.sz; omega)).trans c0
    have cx := (Below.cell (p := ⟨g, i, none⟩) xx (by show g < w1.heap.size; have := BW.out.sz; omega)).trans cx
    replace BW := Lib.hid (Ex.trans BW.out xx)
    have H3 := Lib.hid hd
    generalize w1.heap.size = g5 at *
    clear ho hd xx
    go_wp2_with (first | (with_reducible refine stop_load (t := 70) ?_) | (with_reducible refine stop_store (t := 70) ?_) | (with_reducible refine stop_store (t := 113) ?_) | (with_reducible refine stop_load (t := 113) ?_))
    (with_reducible refine ⟨?_⟩); (with_reducible refine at_any ?_ ?_); (focus go_simp); refine fun K0 hK => st_lx _ _ w.heap.size 70 Try.sizeLt x rfl rfl rfl OK.out Z0.out.2 (by rfl) (fun w4 hd ho => hK _ _ ?_)
    clear hK
    have X := ho.below w.heap.size (Nat.le_refl _) w BW.out
    clear ho c0 cx a1 a2 a3 a4 a5
    go_wp2_with fail
    exact bodyPost_ret (res_l rfl _ _ w.heap.size rfl x hd) rfl ⟨rfl, X⟩
  case true =>
    simp only [Bool.false_eq_true, if_false, if_true] at cx
    go_enter Try.func63, Try.ntmps63
    go_wp2_with (first | (with_reducible refine stop_load (t := 105) ?_))
    (with_reducible refine ⟨?_⟩)
    change wpList _ _ _ _ _ (w.alloc (.cells zeroLt.C.toArray 70))
    generalize hw1 : (w.alloc (.cells zeroLt.C.toArray 70)) = w1 at *
    clear hw1
    go_wp2_with (first | (with_reducible refine stop_load (t := 70) ?_) | (with_reducible refine stop_store (t := 70) ?_) | (with_reducible refine stop_store (t := 113) ?_) | (with_reducible refine stop_load (t := 113) ?_))
    (with_reducible refine ⟨?_⟩); (with_reducible refine at_any ?_ ?_); (focus go_simp); refine fun K0 hK => st_lx _ _ w1.heap.size 113 Try.sizeHd x rfl rfl rfl OK.out (Bk.new rfl _ _) (by rfl) (fun w3 hd ho => hK _ _ ?_)
    clear hK
    have xx : Ex w1 w3 := ho.below w1.heap.size (Nat.le_refl _) w1 (Ex.alloc w1 _)
    replace Z0 := Lib.hid (Z0.out.ext xx)
    have c0 := (Below.cell (p := ⟨O, 0, none⟩) xx (by show O < w1.heap.size; have := BW.out.sz; omega)).trans c0
    have cx := (Below.cell (p := ⟨g, i, none⟩) xx (by show g < w1.heap.size; have := BW.out.sz; omega)).trans cx
    replace BW := Lib.hid (Ex.trans BW.out xx)
    have H3 := Lib.hid hd
    generalize w1.heap.size = g5 at *
    clear ho hd xx
    go_wp2_with (first | (with_reducible refine stop_load (t := 70) ?_) | (with_reducible refine stop_store (t := 70) ?_) | (with_reducible refine stop_store (t := 113) ?_) | (with_reducible refine stop_load (t := 113) ?_))
    (with_reducible refine ⟨?_⟩); (with_reducible refine at_any ?_ ?_); (focus go_simp); refine fun K0 hK => ld_lx _ _ 113 x rfl rfl H3.out (hK _ _ ?_)
    clear hK
    go_wp2_with (first | (with_reducible refine stop_load (t := 70) ?_) | (with_reducible refine stop_store (t := 70) ?_) | (with_reducible refine stop_store (t := 113) ?_) | (with_reducible refine stop_load (t := 113) ?_))
    (with_reducible refine ⟨?_⟩); (with_reducible refine at_any ?_ ?_); (focus go_simp); refine fun K0 hK => st_lx _ _ w.heap.size 70 Try.sizeLt x rfl rfl rfl OK.out Z0.out.2 (by rfl) (fun w4 hd ho => hK _ _ ?_)
    clear hK
    have X := ho.below w.heap.size (Nat.le_refl _) w BW.out
    clear ho c0 cx a1 a2 a3 a4 a5
    go_wp2_with fail
    exact bodyPost_ret (res_l rfl _ _ w.heap.size rfl x hd) rfl ⟨rfl, X⟩
end Go.Proofs.Ytedljddjmojeeaa
