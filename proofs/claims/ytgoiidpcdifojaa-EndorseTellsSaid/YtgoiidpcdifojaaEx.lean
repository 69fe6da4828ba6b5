/- votes: a vote is built -/
import Derived.Test.YtgoiidpcdifojaaEd
namespace Go.Proofs.Ytgoiidpcdifojaa
open Go.RowKit
open Sm (digV DB by8 sumL numL zero16 by8_int Cls cls_load_mid wp_region_cls byteCells_len)
theorem stop_build88 {P : Program} {ops : Array Oper} {rest : List Oper} {d : Option Tmp} {fs : Array (Nat × Operand)} {t2 : TypeId} {pos : String} {af : Array Edge} {g : Option (Nat × Bool)} {a : Act} {w : World} {Q : Exit → Act → World → Prop}
    (k : Stop (wpList P ops Q ({ dst := d, op := .build 88 fs, type := t2, pos := pos, after := af, guard := g } :: rest) a w)) : wpList P ops Q ({ dst := d, op := .build 88 fs, type := t2, pos := pos, after := af, guard := g } :: rest) a w := k.go
set_option maxRecDepth 100000 in
theorem wp_build88 {o : Oper} {a : Act} {w : World} {K : Act → World → Prop} {Q : Exit → Act → World → Prop} (x y : Operand) (m : Int) (M : List UInt8) (hM : M.length = 16) (ho : o.op = .build 88 #[(0, x), (1, y)]) (hx : a.eval x = .int .i64 m) (hy : a.eval y = digV M)
    (hk : K (a.put o.dst (voV (m, M))) w) : o.wp Try.prog a w K Q := by
  obtain ⟨x0, x1, x2, x3, x4, x5, x6, x7, x8, x9, x10, x11, x12, x13, x14, x15, rfl⟩ := Sm.len16 M hM
  rw [Sm.digV_lit] at hy
  unfold Oper.wp
  obtain ⟨ev, hev⟩ : ∃ ev, ev = a.eval := ⟨_, rfl⟩
  rw [← hev] at hx hy ⊢
  clear hev
  unfold execOp
  simp only [ho]
  simp [hx, hy, go_sem]
  go_simp
  exact hk
end Go.Proofs.Ytgoiidpcdifojaa
