/- letters that are the same; Hold, Free where there is nothing to do; rows of letters, of bools; All -/
import Derived.Test.YtedljddjmojeeaaPj
import Derived.Test.YtedljddjmojeeaaFlR
namespace Go.Proofs.Ytedljddjmojeeaa
open Go.RowKit
section
variable {P : Program} {ops : Array Oper} {rest : List Oper} {d : Option Tmp} {t2 : TypeId} {pos : String} {af : Array Edge} {g : Option (Nat × Bool)} {a : Act} {w : World} {Q : Exit → Act → World → Prop}
theorem stop_bs {t : TypeId} {n : Nat} {fs : Array (Nat × Operand)} (k : Stop (wpList P ops Q ({ dst := d, op := .buildSlice t n fs, type := t2, pos := pos, after := af, guard := g } :: rest) a w)) : wpList P ops Q ({ dst := d, op := .buildSlice t n fs, type := t2, pos := pos, after := af, guard := g } :: rest) a w := k.go
theorem stop_app {x y : Operand} {ts : Array TypeId} (k : Stop (wpList P ops Q ({ dst := d, op := .call { callee := .builtin .append, args := #[x, y], argTypes := ts }, type := t2, pos := pos, after := af, guard := g } :: rest) a w)) : wpList P ops Q ({ dst := d, op := .call { callee := .builtin .append, args := #[x, y], argTypes := ts }, type := t2, pos := pos, after := af, guard := g } :: rest) a w := k.go
end
set_option maxRecDepth 100000 in
theorem wp_bsl {o : Oper} {a : Act} {w : World} {K : Act → World → Prop} {Q : Exit → Act → World → Prop} (y : Operand) (x : Lt) (ho : o.op = .buildSlice 78 1 #[(0, y)]) (hy : a.eval y = x.V)
    (hk : K (a.put o.dst (.slice (some ⟨w.heap.size, 0, none⟩) 1 1)) (w.alloc (.cells x.C.toArray 70))) : o.wp Try.prog a w K Q := by
  obtain ⟨k, f, t, ad, cap, l⟩ := x
  have hy : a.eval y = .agg #[.int .i64 k, .int .i64 f, .int .i64 t, .slice ad l.length cap] := hy
  unfold Oper.wp
  obtain ⟨ev, hev⟩ : ∃ ev, ev = a.eval := ⟨_, rfl⟩
  rw [← hev] at hy ⊢
  clear hev
  unfold execOp
  simp only [ho]
  simp [hy, go_sem]
  go_simp
  exact hk
theorem Lt.C_len (x : Lt) : x.C.length = 4 := rfl
theorem ld_lr {o : Oper} {a : Act} {w : World} {K : Act → World → Prop} {Q : Exit → Act → World → Prop} (y : Operand) (g off : Nat) (x : Lt) (ho : o.op = .load 70 y) (ha : a.eval y = .pointer (some ⟨g, off, none⟩)) (h : w.rangeAt g off x.C) (hk : K (a.put o.dst x.V) w) : o.wp Try.prog a w K Q := by
  obtain ⟨dd, hd⟩ : ∃ d, Try.prog.underlying 70 = some d ∧ d.isRow = true := ⟨_, Try.underlying70, rfl⟩
  exact wp_load_mid 70 y ho g off ha x.C dd h hd.1 hd.2 (by rw [Try.sizeLt]; rfl) hk
theorem Lt.In.ok {x : Lt} {w : World} (h : x.In w) : x.Ok := ⟨h.k.1, h.k.2, h.f.1, h.f.2, h.t.1, h.t.2⟩
theorem LN.inn {x : Lt} {w : World} {B : Nat} (h : LN w B x) (hn : x.bs.l.length ≤ 9223372036854775807) : x.In w := ⟨⟨h.1.kind0, h.1.kind1⟩, ⟨h.1.frm0, h.1.frm1⟩, ⟨h.1.to0, h.1.to1⟩, h.2.1, hn⟩
theorem PN.kt {S : List Nat} {B B' : Nat} {w w' : World} {p : Pt} (h : PN w B' p) (k : Kt S B w w') (hs : 5 ∉ S) : PN w' B' p := by
  refine ⟨⟨h.1.cap, h.1.nil, fun h0 => ?_⟩, fun a e => ⟨(h.2 a e).1, (h.2 a e).2.elim fun cs hc => ⟨cs, k.bk hc hs⟩⟩⟩
  obtain ⟨a, o, e, hB, hc⟩ := h.1.read h0
  obtain ⟨_, cs, hb⟩ := h.2 _ e
  refine ⟨a, o, e, Nat.lt_of_lt_of_le hB k.size, fun i hi => ?_⟩
  rw [← hc i hi]
  have h2 := k.bk hb hs
  unfold Bk at hb h2
  simp only [World.cell?, h2, hb]
theorem LN.kt {S : List Nat} {B B' : Nat} {w w' : World} {x : Lt} (h : LN w B' x) (k : Kt S B w w') (hs : 5 ∉ S) : LN w' B' x := ⟨h.1, h.2.kt k hs⟩
theorem zeroLt_in (w : World) : zeroLt.In w := LN.inn (B := 0) ⟨zeroLt_ok, nilB_pn _ _⟩ (by decide)
theorem lflat_len (ls : List Lt) : (ls.flatMap Lt.C).length = ls.length * 4 := by
  induction ls with
  | nil => rfl
  | cons x r ih => rw [List.flatMap_cons, List.length_append, ih, Lt.C_len, List.length_cons]; omega
theorem lflat_at : ∀ (l : List Lt) (i j : Nat) (x : Lt), l[i]? = some x → j < 4 → (l.flatMap Lt.C)[i * 4 + j]? = x.C[j]?
  | [], _, _, _, h, _ => by simp at h
  | y :: r, 0, j, x, h, hj => by
    obtain rfl : y = x := by simpa using h
    rw [List.flatMap_cons, List.getElem?_append_left (by rw [Lt.C_len]; omega)]
    congr 1; omega
  | y :: r, i + 1, j, x, h, hj => by
    rw [List.flatMap_cons, List.getElem?_append_right (by rw [Lt.C_len]; omega), Lt.C_len, show (i + 1) * 4 + j - 4 = i * 4 + j by omega]
    exact lflat_at r i j x (by simpa using h) hj
theorem lflat_one (ls : List Lt) : ∀ u ∈ ls.flatMap Lt.C, u.oneCell' = true := by
  intro u hu
  rw [List.mem_flatMap] at hu
  obtain ⟨x, _, hx⟩ := hu
  have := x.ones
  rw [List.all_toArray] at this
  exact List.all_eq_true.1 this u hx
/-- a row of letters of one's own -/
def LRow (w : World) (B : Nat) (v : Value) (ls : List Lt) : Prop := w.ownsRow B 70 4 v ls.length (ls.flatMap Lt.C)
def BRow (w : World) (B : Nat) (v : Value) (bs : List Bool) : Prop := w.ownsRow B 4 1 v bs.length (bs.map Value.bool)
theorem row_in {w : World} {B : Nat} {v : Value} {ls : List Lt} (h : LRow w B v ls) (hi : ∀ (i : Nat) (x : Lt), ls[i]? = some x → x.In w) : ∃ ad cap, v = .slice ad ls.length cap ∧ (ad = none → cap = 0) ∧ Lp.In ad cap ls w := by
  obtain ⟨h1, ⟨hv, h0⟩ | ⟨g, cap, cur, rfl, hb, hh, hc, hm, hs, ht⟩⟩ := h
  · exact ⟨none, 0, by rw [h0]; exact hv, fun _ => rfl, ⟨by rw [h0]; exact Nat.le_refl 0, fun _ => rfl, hi, fun h => by omega⟩⟩
  · refine ⟨some ⟨g, 0, none⟩, cap, rfl, (fun h => by cases h), ⟨hc, (fun h => by cases h), hi, fun _ => ⟨g, 0, rfl, (show Bk w g 70 cur from hh).lt, fun i x hx j u hu => ?_⟩⟩⟩
    have hil : i < ls.length := (List.getElem?_eq_some_iff.1 hx).1
    have hj : j < 4 := by have := (List.getElem?_eq_some_iff.1 hu).1; rw [Lt.C_len] at this; exact this
    have h3 := lflat_at ls i j x hx hj
    rw [← ht, hu, List.getElem?_take, if_pos (by omega)] at h3
    rw [(show Bk w g 70 cur from hh).cell, Nat.zero_add, ← Array.getElem?_toList]
    exact h3
theorem brow_in {w : World} {B : Nat} {v : Value} {bs : List Bool} (h : BRow w B v bs) (hn : bs.length ≤ 9223372036854775807) : ∃ ad cap, v = .slice ad bs.length cap ∧ (ad = none → cap = 0) ∧ bs.length ≤ cap ∧ BIn ad bs.length (fun i => bs.getD i false) w := by
  obtain ⟨h1, ⟨hv, h0⟩ | ⟨g, cap, cur, rfl, hb, hh, hc, hm, hs, ht⟩⟩ := h
  · exact ⟨none, 0, by rw [h0]; exact hv, fun _ => rfl, by omega, ⟨hn, fun h => by omega⟩⟩
  · refine ⟨some ⟨g, 0, none⟩, cap, rfl, (fun h => by cases h), hc, ⟨hn, fun _ => ⟨g, 0, rfl, (show Bk w g 4 cur from hh).lt, fun i hi => ?_⟩⟩⟩
    rw [(show Bk w g 4 cur from hh).cell, Nat.zero_add, ← Array.getElem?_toList]
    have h3 : (cur.toList.take (bs.length * 1))[i]? = some (.bool (bs.getD i false)) := by
      rw [ht, List.getElem?_map, List.getElem?_eq_getElem hi, List.getD_eq_getElem?_getD, List.getElem?_eq_getElem hi]; rfl
    rwa [List.getElem?_take, if_pos (by omega)] at h3
set_option maxHeartbeats 4000000 in
set_option maxRecDepth 100000 in
theorem letter_same (x y : Lt) (e : x.ct = y.ct) (w : World) (hx : x.Ok) (hy : y.Ok) (hxi : x.bs.In w w.heap.size) (hyi : y.bs.In w w.heap.size) : Calls Try.prog 57 #[x.V, y.V] w fun e w' => e = .returned (.bool true) ∧ Ex w w' := by
  obtain ⟨k, f, t, p⟩ := x
  obtain ⟨k2, f2, t2, q⟩ := y
  have e1 : k = k2 := congrArg (·.kind) e
  have e2 : f = f2 := congrArg (·.frm) e
  have e3 : t = t2 := congrArg (·.to) e
  have e4 : p.l = q.l := congrArg (·.by_) e
  subst e1 e2 e3
  clear e
  obtain ⟨cs, hcs⟩ : ∃ cs, cs = (Lt.mk k f t p).C.toArray := ⟨_, rfl⟩
  obtain ⟨ds, hds⟩ : ∃ ds, ds = (Lt.mk k f t q).C.toArray := ⟨_, rfl⟩
  have A0 : Hid (LB ((w.alloc (.cells cs 70)).alloc (.cells ds 70)) w.heap.size ⟨k, f, t, p⟩) := Lib.hid ⟨hx, by rw [hcs]; exact (Bk.new rfl _ _).more _⟩
  have B0 : Hid (LB ((w.alloc (.cells cs 70)).alloc (.cells ds 70)) (w.heap.size + 1) ⟨k, f, t, q⟩) := Lib.hid ⟨hy, by rw [hds]; exact Bk.new (by simp) _ _⟩
  have BW : Hid (Ex w ((w.alloc (.cells cs 70)).alloc (.cells ds 70))) := Lib.hid (Ex.trans (Ex.alloc w _) (Ex.alloc _ _))
  have c1 := pt_conv p ((w.alloc (.cells cs 70)).alloc (.cells ds 70)) (hxi.ext BW.out)
  have c2 := pt_conv q ((w.alloc (.cells cs 70)).alloc (.cells ds 70)) (hyi.ext BW.out)
  rw [e4] at c1
  rw [show (Calls Try.prog 57 #[Lt.V ⟨k, f, t, p⟩, Lt.V ⟨k, f, t, q⟩] w) = (Calls Try.prog 57 #[.agg cs, .agg ds] w) by rw [hcs, hds]; rfl]
  obtain ⟨n, hn⟩ : ∃ n, n = q.l.length := ⟨_, rfl⟩
  have hpn : p.l.length = n := by rw [e4, hn]
  obtain ⟨s, hs⟩ : ∃ s, s = strL q.l := ⟨_, rfl⟩
  rw [← hs, ← hn] at c1
  rw [← hs, ← hn] at c2
  have HPN := Lib.hid hpn
  have HN := Lib.hid hn
  clear hcs hds hx hy hxi hyi hs e4 hpn hn
  go_enter Try.func57, Try.ntmps57
  go_wp2_with (first | (with_reducible refine stop_load (t := 3) ?_))
  (with_reducible refine ⟨?_⟩)
  change wpList _ _ _ _ _ ((w.alloc (.cells cs 70)).alloc (.cells ds 70))
  generalize hw1 : ((w.alloc (.cells cs 70)).alloc (.cells ds 70)) = w1 at *
  clear hw1
  obtain ⟨a0, a1, a2, a3⟩ := A0.out.cells
  obtain ⟨b0, b1, b2, b3⟩ := B0.out.cells
  unfold Pt.V at a3 b3
  simp only [HPN.out] at a3
  simp only [← HN.out] at b3
  go_wp2_with fail
  go_ret
  exact ⟨rfl, BW.out⟩
set_option maxHeartbeats 4000000 in
set_option maxRecDepth 100000 in
theorem hold_none (O : Nat) (l : List (Bool × Lc)) (i : Int) (w : World) (h : OF w O l) (hi : i < 0 ∨ (l.length : Int) ≤ i) : Calls Try.prog 34 #[.pointer (some ⟨O, 0, none⟩), .int .i64 i] w (WPost O l false w) := by
  have CH := Lib.hid (hasO_any O l i w h)
  rw [no_has hi] at CH
  have HOF := Lib.hid h
  clear h hi
  go_enter Try.func34, Try.ntmps34
  go_wp2_with (first | (with_reducible refine stop_load (t := 70) ?_) | (with_reducible refine stop_store (t := 70) ?_) | (with_reducible refine stop_build (t := 70) ?_) | (with_reducible refine stop_bs (t := 78) ?_) | (with_reducible refine stop_app ?_))
  refine CH.out.mono ?_
  rintro e w1 ⟨rfl, rfl⟩
  clear CH
  go_wp2_with fail
  go_ret
  exact ⟨rfl, HOF.out, FT.refl _ _⟩
set_option maxHeartbeats 4000000 in
set_option maxRecDepth 100000 in
theorem free_none (O : Nat) (l : List (Bool × Lc)) (i : Int) (w : World) (h : OF w O l) (hi : i < 0 ∨ (l.length : Int) ≤ i) : Calls Try.prog 39 #[.pointer (some ⟨O, 0, none⟩), .int .i64 i] w (WPost O l false w) := by
  have CH := Lib.hid (held_none O l i w h hi)
  have HOF := Lib.hid h
  have HLT := Lib.hid h.lt
  clear h
  go_enter Try.func39, Try.ntmps39
  go_wp2_with (first | (with_reducible refine stop_load (t := 70) ?_) | (with_reducible refine stop_store (t := 70) ?_) | (with_reducible refine stop_build (t := 70) ?_) | (with_reducible refine stop_bs (t := 78) ?_) | (with_reducible refine stop_app ?_))
  refine CH.out.mono ?_
  rintro e w1 ⟨rfl, x1⟩
  clear CH
  go_wp2_with fail
  go_ret
  exact ⟨rfl, HOF.out.ext x1, x1.ft (Nat.le_of_lt HLT.out)⟩
set_option maxHeartbeats 4000000 in
set_option maxRecDepth 100000 in
theorem free_free (O : Nat) (l : List (Bool × Lc)) (i : Nat) (x : Lc) (w : World) (h : OF w O l) (hx : l[i]? = some (false, x)) : Calls Try.prog 39 #[.pointer (some ⟨O, 0, none⟩), .int .i64 i] w (WPost O l false w) := by
  have CH := Lib.hid (held_any O l i (false, x) w h hx)
  have HOF := Lib.hid h
  have HLT := Lib.hid h.lt
  clear h
  go_enter Try.func39, Try.ntmps39
  go_wp2_with (first | (with_reducible refine stop_load (t := 70) ?_) | (with_reducible refine stop_store (t := 70) ?_) | (with_reducible refine stop_build (t := 70) ?_) | (with_reducible refine stop_bs (t := 78) ?_) | (with_reducible refine stop_app ?_))
  refine CH.out.mono ?_
  rintro e w1 ⟨rfl, x1⟩
  clear CH
  go_wp2_with fail
  go_ret
  exact ⟨rfl, HOF.out.ext x1, x1.ft (Nat.le_of_lt HLT.out)⟩
theorem Try.infoLt : (Try.prog.info? 70).map (fun i => (i.zero, i.size, i.bytes)) = some (some zeroLt.V, 4, 48) := by kernel_rfl
/-- bytes stay where blocks of other types are turned -/
def PtK (w : World) (p : Pt) : Prop := p.In w w.heap.size
set_option maxHeartbeats 4000000 in
set_option maxRecDepth 100000 in
theorem all_any (O : Nat) (l : List (Bool × Lc)) (w : World) (h : OF w O l) : Calls Try.prog 76 #[.pointer (some ⟨O, 0, none⟩)] w fun e w' => ∃ (ad : Option Addr) (cap : Nat) (xs : List Lt), e = .returned (.slice ad xs.length cap) ∧ xs.map Lt.ct = l.map (·.2) ∧ Lp.In ad cap xs w' ∧ Ex w w' := by
  obtain ⟨rv, ls, OB0, hct⟩ := h
  have h64 := OB0.len
  have HOB := Lib.hid OB0
  have HCT := Lib.hid hct
  obtain ⟨ad, cap, hrv, _⟩ := OB0.form
  subst hrv
  have c0 : w.cell? ⟨O, 0, none⟩ = some (.slice ad ls.length cap) := OB0.blk.cell 0
  obtain ⟨m, hm⟩ : ∃ m, m = ls.length := ⟨_, rfl⟩
  rw [← hm] at c0 h64
  have HM := Lib.hid hm
  clear hm hct OB0
  go_enter Try.func76, Try.ntmps76
  go_wp2_with (first | (with_reducible refine stop_load (t := 70) ?_) | (with_reducible refine stop_store (t := 70) ?_) | (with_reducible refine stop_build (t := 70) ?_) | (with_reducible refine stop_bs (t := 78) ?_) | (with_reducible refine stop_app ?_))
  go_loopw [3, 10] (fun v i wr => ∃ (k : Nat) (xs : List Lt), k ≤ m ∧ i = .int .i64 k ∧ Hid (xs.length = k ∧ xs.map Lt.ct = (ls.take k).map (fun x => x.2.ct)) ∧ Hid (LRow wr w.heap.size v xs) ∧ Hid (∀ (j : Nat) (x : Lt), xs[j]? = some x → LN wr 0 x ∧ x.bs.l.length ≤ 8192) ∧ Hid (Ex w wr)) (fun _ i _ => m - (intOf i).toNat)
  case atStart => exact ⟨0, [], by omega, rfl, Lib.hid ⟨rfl, rfl⟩, Lib.hid (World.ownsRow_nil _ _ _ _), Lib.hid (fun j x hx => by simp at hx), Lib.hid (Ex.refl _)⟩
  case round =>
    obtain ⟨k, xs, hk, rfl, HX, HR, HI, BW⟩ := hrel
    by_cases hlt : k < m
    · have q1 : (k : Int) < (m : Int) := by omega
      obtain ⟨y, hy⟩ : ∃ y, ls[k]? = some y := ⟨_, List.getElem?_eq_getElem (by rw [← HM.out]; exact hlt)⟩
      have HY := Lib.hid hy
      have YS := Lib.hid (HOB.out.siz k y hy)
      clear hy
      go_wp2_with (first | (with_reducible refine stop_load (t := 70) ?_) | (with_reducible refine stop_store (t := 70) ?_) | (with_reducible refine stop_build (t := 70) ?_) | (with_reducible refine stop_bs (t := 78) ?_) | (with_reducible refine stop_app ?_))
      refine (letter_any O _ ls k y wr (HOB.out.ext BW.out) HY.out).mono ?_
      rintro e w2 ⟨rfl, x1⟩
      have YI := Lib.hid (((HOB.out.ext BW.out).ext x1).ins k y HY.out)
      have X1 := Lib.hid x1
      clear x1
      go_wp2_with (first | (with_reducible refine stop_load (t := 70) ?_) | (with_reducible refine stop_store (t := 70) ?_) | (with_reducible refine stop_build (t := 70) ?_) | (with_reducible refine stop_bs (t := 78) ?_) | (with_reducible refine stop_app ?_))
      refine (ownl_any y.2 (Nat.le_trans YS.out (by decide)) w2 YI.out.1 YI.out.2.1).mono ?_
      rintro e w3 ⟨p, rfl, hpl, hpn, x2⟩
      have X2 := Lib.hid (Ex.trans X1.out x2)
      have NI := Lib.hid (show LN w3 0 { y.2 with bs := p } ∧ p.l.length ≤ 8192 from ⟨⟨⟨YI.out.1.kind0, YI.out.1.kind1, YI.out.1.frm0, YI.out.1.frm1, YI.out.1.to0, YI.out.1.to1⟩, hpn.less (Nat.zero_le _)⟩, by rw [hpl]; exact YS.out⟩)
      obtain ⟨z, hz⟩ : ∃ z : Lt, z = { y.2 with bs := p } := ⟨_, rfl⟩
      replace NI : Hid (LN w3 0 z ∧ z.bs.l.length ≤ 8192) := Lib.hid (by rw [hz]; exact NI.out)
      rw [← hz]
      have HZ : Hid (z.ct = y.2.ct) := Lib.hid (by rw [hz]; unfold Lt.ct; simp only [hpl])
      clear hz hpl hpn x2 X1
      go_wp2_with (first | (with_reducible refine stop_load (t := 70) ?_) | (with_reducible refine stop_store (t := 70) ?_) | (with_reducible refine stop_build (t := 70) ?_) | (with_reducible refine stop_bs (t := 78) ?_) | (with_reducible refine stop_app ?_))
      (with_reducible refine ⟨?_⟩); (with_reducible refine at_any ?_ ?_); (focus go_simp); refine fun K0 hK => wp_bsl _ z rfl rfl (hK _ _ ?_)
      clear hK
      have X3 := Lib.hid (Ex.trans X2.out (Ex.alloc w3 (.cells z.C.toArray 70)))
      have NB := Lib.hid (Bk.new (g := w3.heap.size) (w := w3) rfl 70 z.C.toArray)
      replace NI := Lib.hid (And.intro (NI.out.1.ext (Ex.alloc w3 (.cells z.C.toArray 70))) NI.out.2)
      generalize hw4 : w3.alloc (.cells z.C.toArray 70) = w4 at *
      obtain ⟨g, hg⟩ : ∃ g, g = w3.heap.size := ⟨_, rfl⟩
      rw [← hg] at NB ⊢
      clear hw4 hg X2
      go_wp2_with (first | (with_reducible refine stop_load (t := 70) ?_) | (with_reducible refine stop_store (t := 70) ?_) | (with_reducible refine stop_build (t := 70) ?_) | (with_reducible refine stop_bs (t := 78) ?_) | (with_reducible refine stop_app ?_))
      (with_reducible refine ⟨?_⟩); (with_reducible refine at_any ?_ ?_); (focus go_simp); refine fun K0 hK => wp_rapp _ _ 78 70 zeroLt.V 4 48 rfl Try.underlying78 Try.infoLt rfl (by decide) w.heap.size xs.length _ _ rfl (X3.out.row HR.out) (Nat.le_trans BW.out.sz X3.out.sz) (some ⟨g, 0, none⟩) 1 1 z.C rfl rfl (fun h => by cases h) (fun A hA j u hu => ?_) (fun u hu => lflat_one [z] u (by simpa using hu)) (by have := HX.out.1; omega) (by have := HX.out.1; omega) (fun v5 w5 r1 r2 _ => hK _ _ ?_)
      · cases hA
        rw [Addr.add_lit, Nat.zero_add, NB.out.cell]
        simpa using hu
      clear hK
      have x4 : Ex w w5 := (show Below w.heap.size _ _ from Ex.trans BW.out X3.out).trans r2.below
      replace HI : Hid (∀ (j : Nat) (x : Lt), (xs ++ [z])[j]? = some x → LN w5 0 x ∧ x.bs.l.length ≤ 8192) := Lib.hid (fun j x hx => ?_)
      · have R1 := Lib.hid (show LRow w5 w.heap.size v5 (xs ++ [z]) by unfold LRow; rw [List.length_append, List.flatMap_append]; simpa using r1)
        replace BW := Lib.hid x4
        replace HX : Hid ((xs ++ [z]).length = k + 1 ∧ (xs ++ [z]).map Lt.ct = (ls.take (k + 1)).map (fun x => x.2.ct)) := Lib.hid ⟨by rw [List.length_append, HX.out.1]; rfl, by rw [List.map_append, HX.out.2, List.take_add_one, HY.out, List.map_append]; simp [HZ.out]⟩
        clear r1 r2 x4 HR X3
        go_wp2_with (first | (with_reducible refine stop_load (t := 70) ?_) | (with_reducible refine stop_store (t := 70) ?_) | (with_reducible refine stop_build (t := 70) ?_) | (with_reducible refine stop_bs (t := 78) ?_) | (with_reducible refine stop_app ?_))
        go_roundw
        case rel => exact ⟨k + 1, xs ++ [z], by omega, by go_num, HX, R1, HI, BW⟩
        case measure => simp [intOf]; omega
      · rcases Nat.lt_or_ge j xs.length with hj | hj
        · rw [List.getElem?_append_left hj] at hx
          exact ⟨((HI.out j x hx).1.ext X3.out).kt r2 (by decide), (HI.out j x hx).2⟩
        · rw [List.getElem?_append_right hj] at hx
          have h0 : j - xs.length = 0 := by
            rcases Nat.eq_zero_or_pos (j - xs.length) with h | h
            · exact h
            · rw [List.getElem?_eq_none (by simp; omega)] at hx; cases hx
          rw [h0] at hx
          obtain rfl : z = x := by simpa using hx
          exact ⟨NI.out.1.kt r2 (by decide), NI.out.2⟩
    · obtain rfl : k = m := by omega
      have q1 : ¬ (k : Int) < (k : Int) := by omega
      go_wp2_with fail
      go_ret
      obtain ⟨ad2, cap2, rfl, hn2, hin⟩ := row_in HR.out (fun j x hx => LN.inn (HI.out j x hx).1 (Nat.le_trans (HI.out j x hx).2 (by decide)))
      refine ⟨ad2, cap2, xs, rfl, ?_, hin, BW.out⟩
      rw [HX.out.2, HM.out, List.take_length, ← HCT.out]
      unfold ctO
      rw [List.map_map]
      rfl
end Go.Proofs.Ytedljddjmojeeaa
