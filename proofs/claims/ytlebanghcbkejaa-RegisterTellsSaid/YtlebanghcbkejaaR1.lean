/- walks: register.Right -/
import Derived.Test.YtlebanghcbkejaaE1
namespace Go.Proofs.Ytlebanghcbkejaa
open Go.RowKit
/-- a register -/
structure Rg where
  b : Int
  c : Int
  a : Int
  l : List UInt8
  p : Int
def Rg.C (r : Rg) : List Value := [.int .u64 r.b, .int .u64 r.c, .int .u64 r.a] ++ Lib.byteCells r.l ++ [.int .i64 r.p]
def Rg.V (r : Rg) : Value := .agg r.C.toArray
def u64R (x : Int) : Prop := 0 ≤ x ∧ x < 18446744073709551616
structure Rg.Ok (r : Rg) : Prop where
  b0 : 0 ≤ r.b
  c0 : 0 ≤ r.c
  a0 : 0 ≤ r.a
  l16 : r.l.length = 16
def zeroL : List UInt8 := List.replicate 16 0
def Rg.right (r : Rg) : Bool := decide (r.b ≤ 1099511627776) && (decide (r.c ≤ 1099511627776) && (decide (r.a ≤ r.c) && (decide (r.c - r.a ≤ 8) && ((decide (r.p = 0) || decide (r.p = 1)) && (decide (0 < r.c) || decide (r.l = zeroL))))))
theorem Rg.at0 (r : Rg) : r.C[0]? = some (.int .u64 r.b) := rfl
theorem Rg.at1 (r : Rg) : r.C[1]? = some (.int .u64 r.c) := rfl
theorem Rg.at2 (r : Rg) : r.C[2]? = some (.int .u64 r.a) := rfl
theorem Rg.at19 (r : Rg) (h : r.l.length = 16) : r.C[19]? = some (.int .i64 r.p) := by
  unfold Rg.C; simp [List.getElem?_append, byteCells_len, h]
theorem Rg.atH (r : Rg) (h : r.l.length = 16) (j : Nat) (hj : j < 16) : r.C[3 + j]? = (Lib.byteCells r.l)[j]? := by
  unfold Rg.C
  rw [List.append_assoc, List.getElem?_append_right (by simp), List.getElem?_append_left (by simp [byteCells_len, h]; omega)]
  simp
theorem Rg.len (r : Rg) (h : r.l.length = 16) : r.C.length = 20 := by unfold Rg.C; simp [byteCells_len, h]
theorem zero_dig : digV zeroL = .agg #[.int .u8 0, .int .u8 0, .int .u8 0, .int .u8 0, .int .u8 0, .int .u8 0, .int .u8 0, .int .u8 0, .int .u8 0, .int .u8 0, .int .u8 0, .int .u8 0, .int .u8 0, .int .u8 0, .int .u8 0, .int .u8 0] := rfl
theorem Try.size25 : (Try.prog.info? 25).map (·.size) = some 16 := by kernel_rfl
theorem Try.size27 : (Try.prog.info? 27).map (·.size) = some 20 := by kernel_rfl
theorem wpList_at_load {P : Program} {ops : Array Oper} {rest : List Oper} {d : Option Tmp} {ty t2 : TypeId} {x : Operand} {pos : String} {af : Array Edge} {g : Option (Nat × Bool)} {a : Act} {w : World} {Q : Exit → Act → World → Prop}
    (hw : Region.wanted { dst := d, op := .load ty x, type := t2, pos := pos, after := af, guard := g } (yielded ops a.tmps) = true)
    (k : ∀ K : Act → World → Prop, (∀ a w, wpList P ops Q rest a w → K a w) → Oper.wp P { dst := d, op := .load ty x, type := t2, pos := pos, after := af, guard := g } a w K Q) : wpList P ops Q ({ dst := d, op := .load ty x, type := t2, pos := pos, after := af, guard := g } :: rest) a w :=
  wpList_step fun K hK => by rw [if_pos hw]; exact k K hK
theorem wpList_at_eql {P : Program} {ops : Array Oper} {rest : List Oper} {d : Option Tmp} {ty ty' t2 : TypeId} {x y : Operand} {pos : String} {af : Array Edge} {g : Option (Nat × Bool)} {a : Act} {w : World} {Q : Exit → Act → World → Prop}
    (hw : Region.wanted { dst := d, op := .binOp .eql ty x y ty', type := t2, pos := pos, after := af, guard := g } (yielded ops a.tmps) = true)
    (k : ∀ K : Act → World → Prop, (∀ a w, wpList P ops Q rest a w → K a w) → Oper.wp P { dst := d, op := .binOp .eql ty x y ty', type := t2, pos := pos, after := af, guard := g } a w K Q) : wpList P ops Q ({ dst := d, op := .binOp .eql ty x y ty', type := t2, pos := pos, after := af, guard := g } :: rest) a w :=
  wpList_step fun K hK => by rw [if_pos hw]; exact k K hK
theorem wp_eql_agg {P : Program} {op : Oper} {a : Act} {w : World} {K : Act → World → Prop} {Q : Exit → Act → World → Prop} (t t' : TypeId) (x y : Operand) (ho : op.op = .binOp .eql t x y t')
    (xs ys : Array Value) (z : Bool) (hx : a.eval x = .agg xs) (hy : a.eval y = .agg ys) (hm : P.eqGuardType P.depth t = false) (heq : (Op.equalIn 10000 t (.agg xs) (.agg ys)).run P w = .ok z w)
    (h : K (a.put op.dst (.bool z)) w) : op.wp P a w K Q := by
  unfold Oper.wp execOp
  simp only [ho, hx, hy]
  simp [run_eqGuard_agg, run_eql_struct, hm, heq, Sem.run_bind, Result.andThen, Oper.upon]
  exact h
theorem Try.guard25 : Try.prog.eqGuardType Try.prog.depth 25 = false := by kernel_rfl
theorem Try.guard27 : Try.prog.eqGuardType Try.prog.depth 27 = false := by kernel_rfl
set_option maxHeartbeats 8000000 in
set_option maxRecDepth 100000 in
theorem right_one (r : Rg) (ok : r.Ok) (w : World) :
    Calls Try.prog 18 #[r.V] w fun e w' => e = .returned (.bool r.right) ∧ Below w.heap.size w w' := by
  obtain ⟨b0, c0, a0, l16⟩ := ok
  obtain ⟨cs, hcs⟩ : ∃ cs, cs = r.C := ⟨_, rfl⟩
  have d0 : cs[0]? = some (.int .u64 r.b) := by rw [hcs]; exact r.at0
  have d1 : cs[1]? = some (.int .u64 r.c) := by rw [hcs]; exact r.at1
  have d2 : cs[2]? = some (.int .u64 r.a) := by rw [hcs]; exact r.at2
  have d19 : cs[19]? = some (.int .i64 r.p) := by rw [hcs]; exact r.at19 l16
  have hr : ((w.alloc (.cells cs.toArray 27)).rangeAt w.heap.size 3 (Lib.byteCells r.l)) := by
    intro j v hv
    have hj : j < 16 := by
      have := (List.getElem?_eq_some_iff.1 hv).1
      rw [byteCells_len] at this; omega
    have := r.atH l16 j hj
    simp [hcs]
    rw [this]; exact hv
  obtain ⟨z, hz⟩ : ∃ z, z = decide (r.l = zeroL) := ⟨_, rfl⟩
  have heq : (Op.equalIn 10000 25 (digV r.l) (.agg #[.int .u8 0, .int .u8 0, .int .u8 0, .int .u8 0, .int .u8 0, .int .u8 0, .int .u8 0, .int .u8 0, .int .u8 0, .int .u8 0, .int .u8 0, .int .u8 0, .int .u8 0, .int .u8 0, .int .u8 0, .int .u8 0])).run Try.prog (w.alloc (.cells cs.toArray 27)) = .ok z (w.alloc (.cells cs.toArray 27)) := by
    rw [hz]; exact eq_digest _ 9998 _ zeroL l16 rfl
  have HZ := Lib.hid hz
  have HC := Lib.hid hcs
  obtain ⟨L, hL⟩ : ∃ L, L = Lib.byteCells r.l := ⟨_, rfl⟩
  have hLl : (Try.prog.info? 25).map (·.size) = some L.length := by rw [Try.size25, hL, byteCells_len, l16]
  unfold digV at heq
  rw [← hL] at heq hr
  have HR := Lib.hid hr
  have HL := Lib.hid hLl
  obtain ⟨d, hd⟩ : ∃ d, Try.prog.underlying 25 = some d ∧ d.isRow = true := ⟨_, Try.underlying25, rfl⟩
  have HD := Lib.hid hd
  clear hd
  have hv : r.V = .agg cs.toArray := by rw [hcs]; rfl
  rw [hv]
  clear hv hz hcs hr hL hLl l16
  go_enter Try.func18, Try.ntmps18
  have hp : r.p = 0 ∨ r.p = 1 ∨ (¬ r.p = 0 ∧ ¬ r.p = 1) := by omega
  obtain ⟨p, hp'⟩ : ∃ p, p = r.p := ⟨_, rfl⟩
  rw [← hp'] at hp d19
  have HP := Lib.hid hp'
  clear hp'
  rcases hp with rfl | rfl | ⟨n0, n1⟩
  all_goals go_wp2_with (
    ((with_reducible refine wpList_at_load ?_ ?_); (focus go_simp); (refine fun K hK => wp_load_mid 25 _ rfl _ 3 rfl _ _ HR.out HD.out.1 HD.out.2 HL.out (hK _ _ ?_))))
  all_goals go_ret
  all_goals refine ⟨ret_eq (congrArg Value.bool ?_), (Below.refl _ _).alloc (Nat.le_refl _) _⟩
  all_goals (have hz := HZ.out; have hp := HP.out; clear HZ HP heq HR HL HD HC; unfold Rg.right; rw [← hz, ← hp]; clear hz hp)
  all_goals (cases z <;> simp <;> first | omega | (simp_all; done) | (intros; simp_all; omega) | (trace_state; fail))
end Go.Proofs.Ytlebanghcbkejaa
