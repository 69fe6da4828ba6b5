/- letters: as values, as blocks -/
import Derived.Test.YtedljddjmojeeaaVh
namespace Go.Proofs.Ytedljddjmojeeaa
open Go.RowKit
structure Lt where
  kind : Int
  frm : Int
  to : Int
  bs : Pt
def Lt.C (x : Lt) : List Value := [.int .i64 x.kind, .int .i64 x.frm, .int .i64 x.to, x.bs.V]
def Lt.V (x : Lt) : Value := .agg x.C.toArray
structure Lt.Ok (x : Lt) : Prop where
  kind0 : -9223372036854775808 ≤ x.kind
  kind1 : x.kind ≤ 9223372036854775807
  frm0 : -9223372036854775808 ≤ x.frm
  frm1 : x.frm ≤ 9223372036854775807
  to0 : -9223372036854775808 ≤ x.to
  to1 : x.to ≤ 9223372036854775807
theorem Lt.len {x : Lt} (ok : x.Ok) : x.C.length = 4 := by
  obtain ⟨kind, frm, to, bs⟩ := x
  rfl
theorem Lt.ones (x : Lt) : x.C.toArray.all (·.oneCell') = true := all_oneCell_toArray (by
  intro v hv
  unfold Lt.C at hv
  simp only [List.mem_append, List.mem_cons, List.not_mem_nil, or_false] at hv
  rcases hv with rfl | rfl | rfl | rfl
  all_goals (first | rfl | exact byteCells_one hv | (cases x; rfl)))
theorem Lt.kind_at {x : Lt} (ok : x.Ok) : x.C[0]? = some (.int .i64 x.kind) := by
  obtain ⟨kind, frm, to, bs⟩ := x
  rfl
theorem Lt.frm_at {x : Lt} (ok : x.Ok) : x.C[1]? = some (.int .i64 x.frm) := by
  obtain ⟨kind, frm, to, bs⟩ := x
  rfl
theorem Lt.to_at {x : Lt} (ok : x.Ok) : x.C[2]? = some (.int .i64 x.to) := by
  obtain ⟨kind, frm, to, bs⟩ := x
  rfl
theorem Lt.bs_at {x : Lt} (ok : x.Ok) : x.C[3]? = some (x.bs.V) := by
  obtain ⟨kind, frm, to, bs⟩ := x
  rfl
def LB (w : World) (g : Nat) (x : Lt) : Prop := x.Ok ∧ Bk w g 70 x.C.toArray
theorem LB.ext {w w' : World} {g : Nat} {x : Lt} (h : LB w g x) (k : Ex w w') : LB w' g x := ⟨h.1, h.2.ext k⟩
theorem LB.lt {w : World} {g : Nat} {x : Lt} (h : LB w g x) : g < w.heap.size := h.2.lt
theorem Only.lb {g h : Nat} {w w' : World} {x : Lt} (k : Only g w w') (hb : LB w h x) (hne : h ≠ g) : LB w' h x := ⟨hb.1, k.bk hb.2 hne⟩
theorem Md.lb {g h : Nat} {w w' : World} {x : Lt} (k : Md g w w') (hb : LB w h x) (hne : h ≠ g) : LB w' h x := ⟨hb.1, k.bk hb.2 hne⟩
theorem LB.cells {w : World} {g : Nat} {x : Lt} (h : LB w g x) : w.cell? ⟨g, 0, none⟩ = some (.int .i64 x.kind) ∧ w.cell? ⟨g, 1, none⟩ = some (.int .i64 x.frm) ∧ w.cell? ⟨g, 2, none⟩ = some (.int .i64 x.to) ∧ w.cell? ⟨g, 3, none⟩ = some (x.bs.V) :=
  ⟨(h.2.cell 0).trans (by rw [List.getElem?_toArray]; exact Lt.kind_at h.1), (h.2.cell 1).trans (by rw [List.getElem?_toArray]; exact Lt.frm_at h.1), (h.2.cell 2).trans (by rw [List.getElem?_toArray]; exact Lt.to_at h.1), (h.2.cell 3).trans (by rw [List.getElem?_toArray]; exact Lt.bs_at h.1)⟩
theorem Try.sizeLt : (Try.prog.info? 70).map (·.size) = some 4 := by kernel_rfl
section
variable {o : Oper} {a : Act} {w : World} {K : Act → World → Prop} {Q : Exit → Act → World → Prop}
theorem ld_l (x : Operand) (g : Nat) (v : Lt) (ho : o.op = .load 70 x) (ha : a.eval x = .pointer (some ⟨g, 0, none⟩)) (h : LB w g v) (hk : K (a.put o.dst v.V) w) : o.wp Try.prog a w K Q := by
  obtain ⟨dd, hd⟩ : ∃ d, Try.prog.underlying 70 = some d ∧ d.isRow = true := ⟨_, Try.underlying70, rfl⟩
  exact wp_ldp (C := v.C) v.C x g 0 dd ho ha h.2 (by simp) hd.1 hd.2 (by rw [Try.sizeLt, Lt.len h.1]) hk
theorem st_l (x y : Operand) (g : Nat) (v : Lt) (ho : o.op = .store 70 x y) (ha : a.eval x = .pointer (some ⟨g, 0, none⟩)) (hy : a.eval y = v.V) (hv : v.Ok)
    {Y : Array Value} (hB : Bk w g 70 Y) (hY : Y.size = 4) (hk : ∀ w', LB w' g v → Only g w w' → K (a.put o.dst undef) w') : o.wp Try.prog a w K Q := by
  have hB' : Bk w g 70 Y.toList.toArray := by simpa using hB
  refine wp_stp v.C x y g 0 ho ha hy hB' (by rw [Lt.len hv]; simp [hY]) (by rw [Try.sizeLt, Lt.len hv]) v.ones (fun w' h1 h2 => hk w' ⟨hv, ?_⟩ h2)
  have e : Y.toList.take 0 ++ v.C ++ Y.toList.drop (0 + v.C.length) = v.C := by
    rw [List.take_zero, List.nil_append, List.drop_eq_nil_of_le (by rw [Lt.len hv]; simp [hY]), List.append_nil]
  rw [e] at h1; exact h1
theorem st_lkind {ty : TypeId} (hs : (Try.prog.info? ty).map (·.size) = some 1) (x y : Operand) (g : Nat) (v : Lt) (z : Int) (ho : o.op = .store ty x y) (ha : a.eval x = .pointer (some ⟨g, 0, none⟩)) (hy : a.eval y = .int .i64 z) (z0 : -9223372036854775808 ≤ z) (z1 : z ≤ 9223372036854775807) (h : LB w g v)
    (hk : ∀ w', LB w' g { v with kind := z } → Only g w w' → K (a.put o.dst undef) w') : o.wp Try.prog a w K Q := by
  refine wp_st1 x y g 0 (.int .i64 z) ho ha hy h.2 (by rw [Lt.len h.1]; decide) hs rfl (fun w' h1 h2 => hk w' ⟨{ h.1 with kind0 := z0, kind1 := z1 }, ?_⟩ h2)
  obtain ⟨ok, _⟩ := h
  have e : v.C.set 0 (.int .i64 z) = ({ v with kind := z } : Lt).C := by
      obtain ⟨kind, frm, to, bs⟩ := v
      rfl
  rw [e] at h1; exact h1
theorem st_lfrm {ty : TypeId} (hs : (Try.prog.info? ty).map (·.size) = some 1) (x y : Operand) (g : Nat) (v : Lt) (z : Int) (ho : o.op = .store ty x y) (ha : a.eval x = .pointer (some ⟨g, 1, none⟩)) (hy : a.eval y = .int .i64 z) (z0 : -9223372036854775808 ≤ z) (z1 : z ≤ 9223372036854775807) (h : LB w g v)
    (hk : ∀ w', LB w' g { v with frm := z } → Only g w w' → K (a.put o.dst undef) w') : o.wp Try.prog a w K Q := by
  refine wp_st1 x y g 1 (.int .i64 z) ho ha hy h.2 (by rw [Lt.len h.1]; decide) hs rfl (fun w' h1 h2 => hk w' ⟨{ h.1 with frm0 := z0, frm1 := z1 }, ?_⟩ h2)
  obtain ⟨ok, _⟩ := h
  have e : v.C.set 1 (.int .i64 z) = ({ v with frm := z } : Lt).C := by
      obtain ⟨kind, frm, to, bs⟩ := v
      rfl
  rw [e] at h1; exact h1
theorem st_lto {ty : TypeId} (hs : (Try.prog.info? ty).map (·.size) = some 1) (x y : Operand) (g : Nat) (v : Lt) (z : Int) (ho : o.op = .store ty x y) (ha : a.eval x = .pointer (some ⟨g, 2, none⟩)) (hy : a.eval y = .int .i64 z) (z0 : -9223372036854775808 ≤ z) (z1 : z ≤ 9223372036854775807) (h : LB w g v)
    (hk : ∀ w', LB w' g { v with to := z } → Only g w w' → K (a.put o.dst undef) w') : o.wp Try.prog a w K Q := by
  refine wp_st1 x y g 2 (.int .i64 z) ho ha hy h.2 (by rw [Lt.len h.1]; decide) hs rfl (fun w' h1 h2 => hk w' ⟨{ h.1 with to0 := z0, to1 := z1 }, ?_⟩ h2)
  obtain ⟨ok, _⟩ := h
  have e : v.C.set 2 (.int .i64 z) = ({ v with to := z } : Lt).C := by
      obtain ⟨kind, frm, to, bs⟩ := v
      rfl
  rw [e] at h1; exact h1
theorem st_lbs {ty : TypeId} (hs : (Try.prog.info? ty).map (·.size) = some 1) (x y : Operand) (g : Nat) (v : Lt) (z : Pt) (ho : o.op = .store ty x y) (ha : a.eval x = .pointer (some ⟨g, 3, none⟩)) (hy : a.eval y = z.V) (h : LB w g v)
    (hk : ∀ w', LB w' g { v with bs := z } → Only g w w' → K (a.put o.dst undef) w') : o.wp Try.prog a w K Q := by
  refine wp_st1 x y g 3 (z.V) ho ha hy h.2 (by rw [Lt.len h.1]; decide) hs rfl (fun w' h1 h2 => hk w' ⟨⟨h.1.kind0, h.1.kind1, h.1.frm0, h.1.frm1, h.1.to0, h.1.to1⟩, ?_⟩ h2)
  obtain ⟨ok, _⟩ := h
  have e : v.C.set 3 (z.V) = ({ v with bs := z } : Lt).C := by
      obtain ⟨kind, frm, to, bs⟩ := v
      rfl
  rw [e] at h1; exact h1
end
theorem res_l {fn : Func} {a : Tmp} (h : fn.results = #[.cell a 70]) (tmps : Array Value) (w : World) (g : Nat) (ha : tmps.getD a undef = .pointer (some ⟨g, 0, none⟩)) (x : Lt) (hB : LB w g x) : (results fn tmps).run Try.prog w = .ok x.V w := by
  obtain ⟨dd, hd⟩ : ∃ d, Try.prog.underlying 70 = some d ∧ d.isRow = true := ⟨_, Try.underlying70, rfl⟩
  exact res_row1 h tmps w g ha hB.2 hd.1 hd.2 (by rw [Try.sizeLt, Lt.len hB.1])
theorem res_l2 {fn : Func} {a b : Tmp} (h : fn.results = #[.cell a 70, .tmp b]) (tmps : Array Value) (w : World) (g : Nat) (ha : tmps.getD a undef = .pointer (some ⟨g, 0, none⟩)) (x : Lt) (hB : LB w g x) : (results fn tmps).run Try.prog w = .ok (.tuple #[x.V, tmps.getD b undef]) w := by
  obtain ⟨dd, hd⟩ : ∃ d, Try.prog.underlying 70 = some d ∧ d.isRow = true := ⟨_, Try.underlying70, rfl⟩
  exact res_row2 h tmps w g ha hB.2 hd.1 hd.2 (by rw [Try.sizeLt, Lt.len hB.1])
def zeroLt : Lt := ⟨0, 0, 0, nilB⟩
theorem zeroLt_ok : zeroLt.Ok := ⟨by decide, by decide, by decide, by decide, by decide, by decide⟩
theorem built_zl : Try.prog.built 70 [] = some zeroLt.C.toArray := by kernel_rfl
structure Lc where
  kind : Int
  frm : Int
  to : Int
  by_ : List UInt8
def Lt.ct (x : Lt) : Lc := ⟨x.kind, x.frm, x.to, x.bs.l⟩
def OwnLPost (a : Lt) (w : World) (e : Ending) (w' : World) : Prop := ∃ p : Pt, e = .returned (Lt.V { a with bs := p }) ∧ p.l = a.bs.l ∧ PN w' w.heap.size p ∧ Ex w w'
/-- a letter with bytes in memory that came up behind B -/
def LN (w : World) (B : Nat) (v : Lt) : Prop := v.Ok ∧ PN w B v.bs
theorem LN.ext {w w' : World} {B : Nat} {v : Lt} (h : LN w B v) (k : Ex w w') : LN w' B v := ⟨h.1, h.2.ext k⟩
set_option maxHeartbeats 4000000 in
set_option maxRecDepth 100000 in
theorem ownl_any (a : Lt) (hL : a.bs.l.length ≤ 140737488355328) (w : World) (ha : a.Ok) (hb : a.bs.In w w.heap.size) : Calls Try.prog 59 #[a.V] w (OwnLPost a w) := by
  have CC := Lib.hid (fun w1 (k : Ex w w1) => bclone_any a.bs hL w1 (hb.ext k))
  obtain ⟨cs, hcs⟩ : ∃ cs, cs = a.C.toArray := ⟨_, rfl⟩
  have A0 : Hid (LB ((w.alloc (.cells cs 70)).alloc (.cells zeroLt.C.toArray 70)) w.heap.size a) := Lib.hid ⟨ha, by rw [hcs]; exact (Bk.new rfl _ _).more _⟩
  have Z0 : Hid (LB ((w.alloc (.cells cs 70)).alloc (.cells zeroLt.C.toArray 70)) (w.heap.size + 1) zeroLt) := Lib.hid ⟨zeroLt_ok, Bk.new (by simp) _ _⟩
  have BW : Hid (Ex w ((w.alloc (.cells cs 70)).alloc (.cells zeroLt.C.toArray 70))) := Lib.hid (Ex.trans (Ex.alloc w _) (Ex.alloc _ _))
  rw [show (Calls Try.prog 59 #[a.V] w) = (Calls Try.prog 59 #[.agg cs] w) by rw [hcs]; rfl]
  clear hcs ha hb hL
  go_enter Try.func59, Try.ntmps59
  go_wp2_with (first | (with_reducible refine stop_load (t := 28) ?_))
  (with_reducible refine ⟨?_⟩)
  change wpList _ _ _ _ _ ((w.alloc (.cells cs 70)).alloc (.cells zeroLt.C.toArray 70))
  generalize hw1 : ((w.alloc (.cells cs 70)).alloc (.cells zeroLt.C.toArray 70)) = w1 at *
  clear hw1
  obtain ⟨B, hB⟩ : ∃ B, B = w.heap.size := ⟨_, rfl⟩
  rw [← hB] at A0 Z0 ⊢
  have HB := Lib.hid hB
  clear hB
  obtain ⟨a0, a1, a2, a3⟩ := A0.out.cells
  unfold Pt.V at a3 CC
  go_wp2_with (first | (with_reducible refine stop_load (t := 70) ?_) | (with_reducible refine stop_store (t := 70) ?_) | (with_reducible refine stop_store (t := 28) ?_))
  refine (CC.out _ BW.out).mono ?_
  rintro e w2 ⟨p, rfl, hpl, hpi, x2⟩
  have A2 := Lib.hid (A0.out.ext x2)
  have Z2 := Lib.hid (Z0.out.ext x2)
  have X2 := Lib.hid (Ex.trans BW.out x2)
  have HPL := Lib.hid hpl
  have HPI := Lib.hid (hpi.less (show B + 2 ≤ w1.heap.size from Z0.out.lt))
  clear CC x2 a0 a1 a2 a3 A0 Z0 hpl hpi BW
  go_wp2_with (first | (with_reducible refine stop_load (t := 70) ?_) | (with_reducible refine stop_store (t := 70) ?_) | (with_reducible refine stop_store (t := 28) ?_))
  (with_reducible refine ⟨?_⟩); (with_reducible refine at_any ?_ ?_); (focus go_simp); refine fun K0 hK => st_lbs (by kernel_rfl) _ _ B a p rfl rfl rfl A2.out (fun w3 hd ho => hK _ _ ?_)
  clear hK
  have A3 := Lib.hid hd
  have Z3 := Lib.hid (ho.lb Z2.out (by omega))
  have X3 := Lib.hid (ho.below w.heap.size (by rw [← HB.out]; omega) w X2.out)
  have P3 := Lib.hid (HPI.out.only ho (by omega))
  clear A2 Z2 X2 hd ho HPI
  go_wp2_with (first | (with_reducible refine stop_load (t := 70) ?_) | (with_reducible refine stop_store (t := 70) ?_) | (with_reducible refine stop_store (t := 28) ?_))
  (with_reducible refine ⟨?_⟩); (with_reducible refine at_any ?_ ?_); (focus go_simp); refine fun K0 hK => ld_l _ _ { a with bs := p } rfl rfl A3.out (hK _ _ ?_)
  clear hK
  go_wp2_with (first | (with_reducible refine stop_load (t := 70) ?_) | (with_reducible refine stop_store (t := 70) ?_) | (with_reducible refine stop_store (t := 28) ?_))
  (with_reducible refine ⟨?_⟩); (with_reducible refine at_any ?_ ?_); (focus go_simp); refine fun K0 hK => st_l _ _ (B + 1) { a with bs := p } rfl rfl rfl A3.out.1 Z3.out.2 (by rfl) (fun w4 hd ho => hK _ _ ?_)
  clear hK
  have X4 := ho.below w.heap.size (by rw [← HB.out]; omega) w X3.out
  have P4 := P3.out.only ho (by omega)
  clear ho
  go_wp2_with fail
  exact bodyPost_ret (res_l rfl _ _ (B + 1) rfl { a with bs := p } hd) rfl ⟨p, rfl, HPL.out, P4.less (by rw [← HB.out]; omega), X4⟩
end Go.Proofs.Ytedljddjmojeeaa
