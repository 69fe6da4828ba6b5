/- MEqA -/
import Derived.Test.YtopamplmpfndlaaEaf
import Derived.ChangeKeysEq
import Derived.Laws.StructEq
import Derived.Deep.MidRow
import Derived.Lib.LaidU8
set_option maxRecDepth 100000
set_option maxHeartbeats 16000000
namespace Go.Proofs.Ytopamplmpfndlaa.Sm
open Go.RowKit
theorem byteCells_len (l : List UInt8) : (Lib.byteCells l).length = l.length := by simp [Lib.byteCells]
theorem byteCells_get (l : List UInt8) (j : Nat) (h : j < l.length) : (Lib.byteCells l)[j]? = some (.int .u8 (l[j].toNat : Int)) := by simp [Lib.byteCells, h]
theorem eqItems_bytes (P : Program) (w : World) (d : Nat) {e : TypeId} (he : P.plainKey e = true) (hu : P.underlying e = some (.int .u8)) (l m : List UInt8) (hlm : l.length = m.length) :
  ∀ k, k ≤ l.length → (Op.eqItems (d + 1) e 1 (Lib.byteCells l).toArray (Lib.byteCells m).toArray (List.range' (l.length - k) k)).run P w = .ok (decide (l.drop (l.length - k) = m.drop (l.length - k))) w := by
 intro k
 induction k with
 | zero =>
  intro _
  simp [Op.eqItems, List.drop_of_length_le, hlm]
 | succ k ih =>
  intro hk
  have h1 : l.length - (k + 1) < l.length := by omega
  have h2 : l.length - (k + 1) < m.length := by omega
  have h3 : l.length - (k + 1) + 1 = l.length - k := by omega
  rw [List.range'_succ, h3]
  simp only [Op.eqItems, Sem.run_bind, Nat.mul_one]
  rw [run_part_plain w he (v := .int .u8 (l[l.length - (k + 1)].toNat : Int)) (by simpa using byteCells_get l _ h1)]
  simp only [Result.andThen_ok]
  rw [run_part_plain w he (v := .int .u8 (m[l.length - (k + 1)].toNat : Int)) (by simpa using byteCells_get m _ h2)]
  simp only [Result.andThen_ok]
  rw [run_equalIn_int w d e .u8 .u8 _ _ hu]
  simp only [Result.andThen_ok]
  have e1 : l.drop (l.length - (k + 1)) = l[l.length - (k + 1)] :: l.drop (l.length - k) := by rw [List.drop_eq_getElem_cons h1, h3]
  have e2 : m.drop (l.length - (k + 1)) = m[l.length - (k + 1)] :: m.drop (l.length - k) := by rw [List.drop_eq_getElem_cons h2, h3]
  rw [e1, e2]
  by_cases hb : l[l.length - (k + 1)] = m[l.length - (k + 1)]
  ·rw [hb]
   simp only [BEq.rfl, Bool.not_true, Bool.false_eq_true, if_false]
   rw [ih (by omega)]
   simp
  ·have : ((l[l.length - (k + 1)].toNat : Int) == (m[l.length - (k + 1)].toNat : Int)) = false := by
    simp only [beq_eq_false_iff_ne, ne_eq]
    intro h
    exact hb (UInt8.toNat_inj.1 (by omega))
   rw [this]
   simp [hb]
theorem Try.u8plain : Try.prog.plainKey 5 = true := by kernel_rfl
theorem Try.cells5 : Try.prog.cellsOf 5 = 1 := by kernel_rfl
theorem eq_digest (w : World) (d : Nat) (l m : List UInt8) (hl : l.length = 16) (hm : m.length = 16) :
  (Op.equalIn (d + 2) 36 (digV l) (digV m)).run Try.prog w = .ok (decide (l = m)) w := by
 obtain ⟨i, hi⟩ : ∃ i, Try.prog.info? 5 = some i := by
  have h := Try.cells5
  unfold Program.cellsOf at h
  cases hq : Try.prog.info? 5 with
  | none => simp [hq] at h
  | some i => exact ⟨i, rfl⟩
 unfold digV
 rw [run_equalIn_array w (d + 1) _ _ Try.underlying36 hi, Try.cells5]
 have := eqItems_bytes Try.prog w d Try.u8plain Try.underlying5 l m (by omega) 16 (by omega)
 rw [hl] at this
 simpa [List.range_eq_range'] using this
theorem Try.guardDig : Try.prog.eqGuardType Try.prog.depth 36 = false := by kernel_rfl
theorem wp_eql_dig {o : Oper} {a : Act} {w : World} {K : Act → World → Prop} {Q : Exit → Act → World → Prop} (t' : TypeId) (x y : Operand) (ho : o.op = .binOp .eql 36 x y t')
  (l m : List UInt8) (hl : l.length = 16) (hm : m.length = 16) (hx : a.eval x = digV l) (hy : a.eval y = digV m) (h : K (a.put o.dst (.bool (decide (l = m)))) w) : o.wp Try.prog a w K Q := by
 have heq := eq_digest w 9998 l m hl hm
 unfold Oper.wp execOp
 simp only [ho, hx, hy]
 unfold digV at heq ⊢
 simp [run_eqGuard_agg, run_eql_struct, Try.guardDig, heq, Sem.run_bind, Result.andThen, Oper.upon]
 exact h
def zeroL : List UInt8 := List.replicate 16 0
end Go.Proofs.Ytopamplmpfndlaa.Sm
