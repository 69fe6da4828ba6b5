/- equality of a register and itself -/
import Derived.Test.YtlebanghcbkejaaR2
namespace Go.Proofs.Ytlebanghcbkejaa
open Go.RowKit
theorem Try.stood27 : Try.prog.stoodInHeld 27 = false := by kernel_rfl
theorem Try.cells25 : Try.prog.cellsOf 25 = 16 := by kernel_rfl
theorem Try.isAgg25' (w : World) : (isAgg 25).run Try.prog w = .ok true w := by
  unfold isAgg; simp [run_underlying Try.underlying25, go_sem]
theorem part_int {t : TypeId} {xs : Array Value} {off : Nat} {v : Value} (w : World) (ha : (isAgg t).run Try.prog w = .ok false w) (hx : xs[off]? = some v) : (part t xs off).run Try.prog w = .ok v w := by
  unfold part
  simp only [Sem.run_bind, ha, Result.andThen_ok, Bool.false_eq_true, if_false, hx, Sem.run_pure]
theorem agg_no {t : TypeId} (w : World) {k : IntKind} (h : Try.prog.underlying t = some (.int k)) : (isAgg t).run Try.prog w = .ok false w := by
  unfold isAgg; simp [run_underlying h, go_sem]
def fields27 : List Field := [⟨ "Boot", 22, 0, false, "", "", 0⟩, ⟨ "Count", 22, 1, false, "", "", 8⟩, ⟨ "Base", 22, 2, false, "", "", 16⟩, ⟨ "Head", 25, 3, false, "", "", 24⟩, ⟨ "Point", 3, 19, false, "", "", 40⟩]
theorem fields27_is : (Try.prog.fieldsOf 27).toList = fields27 := by
  unfold Program.fieldsOf
  rw [Try.underlying27]
  rfl
theorem under27 : Try.prog.underlying 27 = some (.struct (Try.prog.fieldsOf 27)) := by
  unfold Program.fieldsOf; rw [Try.underlying27]
theorem size_run {t : TypeId} {n : Nat} (w : World) (h : (Try.prog.info? t).map (·.size) = some n) : (sizeOf t).run Try.prog w = .ok n w := by
  cases hq : Try.prog.info? t with
  | none => rw [hq] at h; cases h
  | some i =>
    rw [hq] at h
    obtain rfl : i.size = n := by simpa using h
    have : (typeInfo t).run Try.prog w = .ok i w := by unfold typeInfo; simp [go_sem, hq, Sem.run_bind]
    unfold sizeOf; simp [Sem.run_bind, this]
theorem part_dig (w : World) (r : Rg) (h : r.l.length = 16) : (part 25 r.C.toArray 3).run Try.prog w = .ok (digV r.l) w := by
  unfold part
  simp only [Sem.run_bind, Try.isAgg25', Result.andThen_ok, if_true]
  rw [size_run w Try.size25]
  simp only [Result.andThen_ok, Sem.run_pure]
  congr 1
  unfold digV
  congr 1
  apply Array.ext'
  unfold Rg.C
  simp [byteCells_len, h]
theorem eqf_cons (w : World) (d : Nat) (X : Array Value) (f : Field) (fs : List Field) (a : Value) (hn : f.name ≠ "_") (pa : (part f.type X f.offset).run Try.prog w = .ok a w) (he : (Op.equalIn d f.type a a).run Try.prog w = .ok true w) :
    (Op.eqFields d X X (f :: fs)).run Try.prog w = (Op.eqFields d X X fs).run Try.prog w := by
  rw [Op.eqFields, if_pos hn]
  simp only [Sem.run_bind, pa, Result.andThen_ok, he, Bool.not_true, Bool.false_eq_true, if_false]
theorem eqf (w : World) (d : Nat) (r : Rg) (h : r.l.length = 16) (X : Array Value)
   (p0 : (part 22 X 0).run Try.prog w = .ok (.int .u64 r.b) w) (p1 : (part 22 X 1).run Try.prog w = .ok (.int .u64 r.c) w) (p2 : (part 22 X 2).run Try.prog w = .ok (.int .u64 r.a) w)
   (p3 : (part 25 X 3).run Try.prog w = .ok (digV r.l) w) (p4 : (part 3 X 19).run Try.prog w = .ok (.int .i64 r.p) w) : (Op.eqFields (d + 2) X X fields27).run Try.prog w = .ok true w := by
  have hd := eq_digest w d r.l r.l h h
  rw [decide_eq_true rfl] at hd
  have i22 : ∀ a, (Op.equalIn (d + 2) 22 (.int .u64 a) (.int .u64 a)).run Try.prog w = .ok true w := fun a => by
    rw [run_equalIn_int w (d + 1) 22 .u64 .u64 a a Try.underlying22, beq_self_eq_true]
  have i3 : ∀ a, (Op.equalIn (d + 2) 3 (.int .i64 a) (.int .i64 a)).run Try.prog w = .ok true w := fun a => by
    rw [run_equalIn_int w (d + 1) 3 .i64 .i64 a a Try.underlying3, beq_self_eq_true]
  unfold fields27
  refine (eqf_cons w (d + 2) X ⟨ "Boot", 22, 0, false, "", "", 0⟩ _ (.int .u64 r.b) (by decide) p0 (i22 _)).trans ?_
  refine (eqf_cons w (d + 2) X ⟨ "Count", 22, 1, false, "", "", 8⟩ _ (.int .u64 r.c) (by decide) p1 (i22 _)).trans ?_
  refine (eqf_cons w (d + 2) X ⟨ "Base", 22, 2, false, "", "", 16⟩ _ (.int .u64 r.a) (by decide) p2 (i22 _)).trans ?_
  refine (eqf_cons w (d + 2) X ⟨ "Head", 25, 3, false, "", "", 24⟩ _ (digV r.l) (by decide) p3 hd).trans ?_
  refine (eqf_cons w (d + 2) X ⟨ "Point", 3, 19, false, "", "", 40⟩ _ (.int .i64 r.p) (by decide) p4 (i3 _)).trans ?_
  rfl
theorem eq_reg (w : World) (d : Nat) (r : Rg) (h : r.l.length = 16) : (Op.equalIn (d + 3) 27 r.V r.V).run Try.prog w = .ok true w := by
  have p0 : (part 22 r.C.toArray 0).run Try.prog w = .ok (.int .u64 r.b) w := part_int w (agg_no w Try.underlying22) (by rw [List.getElem?_toArray]; exact r.at0)
  have p1 : (part 22 r.C.toArray 1).run Try.prog w = .ok (.int .u64 r.c) w := part_int w (agg_no w Try.underlying22) (by rw [List.getElem?_toArray]; exact r.at1)
  have p2 : (part 22 r.C.toArray 2).run Try.prog w = .ok (.int .u64 r.a) w := part_int w (agg_no w Try.underlying22) (by rw [List.getElem?_toArray]; exact r.at2)
  have p4 : (part 3 r.C.toArray 19).run Try.prog w = .ok (.int .i64 r.p) w := part_int w (agg_no w Try.underlying3) (by rw [List.getElem?_toArray]; exact r.at19 h)
  have p3 := part_dig w r h
  have hq := eqf w d r h r.C.toArray p0 p1 p2 p3 p4
  unfold Rg.V
  rw [run_equalIn_struct w (d + 2) 27 _ _ under27 Try.stood27, fields27_is]
  exact hq
theorem wp_eql_reg {o : Oper} {a : Act} {w : World} {K : Act → World → Prop} {Q : Exit → Act → World → Prop} (t' : TypeId) (x y : Operand) (ho : o.op = .binOp .eql 27 x y t')
    (r : Rg) (h : r.l.length = 16) (hx : a.eval x = r.V) (hy : a.eval y = r.V) (hk : K (a.put o.dst (.bool true)) w) : o.wp Try.prog a w K Q :=
  wp_eql_agg 27 t' x y ho r.C.toArray r.C.toArray true hx hy Try.guard27 (eq_reg w 9997 r h) hk
end Go.Proofs.Ytlebanghcbkejaa
