/- The document's known runs of chapter 28 hold of the program. -/
import Derived.Test.YtgkmfhhoifbbbaaDoorYp
namespace Go.Proofs.YtgkmfhhoifbbbaaDoor
open Go Go.RowKit
theorem wp_bld {o : Oper} {a : Act} {w : World} {K : Act → World → Prop} {Q : Exit → Act → World → Prop} (t : TypeId) (fs : Array (Nat × Operand)) (ho : o.op = .build t fs) (cells : Array Value)
  (h : Tryd.prog.built t (fs.toList.map fun x => (x.1, a.eval x.2)) = some cells) (hk : K (a.put o.dst (.agg cells)) w) : o.wp Tryd.prog a w K Q := by
 have hr := run_build (P := Tryd.prog) w t (fs.map fun x => (x.1, a.eval x.2)) cells (by simpa using h)
 unfold Oper.wp execOp
 simp only [ho]
 simp only [Sem.run_bind]
 rw [hr]
 exact hk
theorem built_item : Tryd.prog.built 35 [(0, .int .i64 2), (3, .int .i64 7)] = some delI.toArray := by kernel_rfl
theorem built_step : Tryd.prog.built 37 [(0, .agg delI.toArray)] = some delC.toArray := by kernel_rfl
theorem unq_known : unquoteV [34, 97, 92, 110, 34] = .tuple #[.string ⟨#[97, 10]⟩, .bool true] := by kernel_rfl
theorem quo_known : (quoteL (signs ⟨#[32]⟩)).toArray = #[34, 32, 34] := by kernel_rfl
set_option maxHeartbeats 8000000 in
set_option maxRecDepth 100000 in
theorem known_any (w : World) : Calls Tryd.prog 12 #[] w fun e w' => e = .returned (.bool true) ∧ Below w.heap.size w w' := by
  have tok1 : True := trivial
  go_enter Tryd.func12, Tryd.ntmps12
  go_wp2_with (first
    | ((with_reducible refine so4 [4000 + 37, 4000 + 35] ?_ ?_); (focus rfl))
    | (go_at_call 18; have _t := tok1; refine (parse_settle _).mono ?_; clear tok1 _t; rintro e z1 ⟨⟨g, c, rfl, hc1, hg1⟩, X1⟩)
    | (go_at_call 18; refine (parse_bad _).mono ?_; rintro e z2 ⟨rfl, X2⟩))
  have X12 := Ex.trans X1 X2
  (with_reducible refine ⟨?_⟩); (with_reducible refine at_any ?_ ?_); (focus go_simp); refine fun K0 hK => wp_bld _ _ rfl _ built_item (hK _ _ ?_)
  clear hK
  go_wp2_with ((with_reducible refine so4 [4000 + 37, 4000 + 35] ?_ ?_); (focus rfl))
  (with_reducible refine ⟨?_⟩); (with_reducible refine at_any ?_ ?_); (focus go_simp); refine fun K0 hK => wp_bld _ _ rfl _ built_step (hK _ _ ?_)
  clear hK
  go_wp2_with ((with_reducible refine so7 ?_ ?_); (focus rfl))
  (with_reducible refine ⟨?_⟩); (with_reducible refine at_any ?_ ?_); (focus go_simp); refine fun K0 hK => wp_bs1 25 37 _ 67 224 _ delC rfl Tryd.underlying25 infoStep rfl (by decide) (by decide) rfl rfl (hK _ _ ?_)
  clear hK
  have D3 : Bk (z2.alloc (.cells delC.toArray 37)) z2.heap.size 37 delC.toArray := Bk.new rfl _ _
  have X13 := Ex.trans X12 (Ex.alloc z2 (.cells delC.toArray 37))
  have hc2 : (z2.alloc (.cells delC.toArray 37)).cell? ⟨g, 0, none⟩ = some (.int .i64 14) := by rw [Below.cell (Ex.trans X2 (Ex.alloc z2 (.cells delC.toArray 37))) (p := ⟨g, 0, none⟩) hg1]; exact hc1
  have hg2 : g < (z2.alloc (.cells delC.toArray 37)).heap.size := Nat.lt_of_lt_of_le hg1 (Ex.trans X2 (Ex.alloc z2 (.cells delC.toArray 37))).size
  clear hc1 hg1 X1 X2 X12
  go_wp2_with (first
    | (go_at_call 23; refine (print_del7 _ _ D3).mono ?_; rintro e z4 ⟨rfl, X4⟩; have hc4 := (Below.cell X4 (p := ⟨g, 0, none⟩) hg2).trans hc2; have hg4 := Nat.lt_of_lt_of_le hg2 X4.size; have X14 := Ex.trans X13 X4; clear hc2 hg2 X13 X4)
    | (go_at_call 16; refine (unquote_any ⟨#[34, 97, 92, 110, 34]⟩ (by decide) _).mono ?_; rintro e z5 ⟨rfl, X5⟩; rw [unq_known]; have hc5 := (Below.cell X5 (p := ⟨g, 0, none⟩) hg4).trans hc4; have X15 := Ex.trans X14 X5; clear hc4 hg4 X14 X5)
    | (go_at_call 15; refine (quote_any ⟨#[32]⟩ (by decide) _).mono ?_; rintro e z6 ⟨rfl, X6⟩; rw [quo_known]; have X16 := Ex.trans X15 X6; clear hc5 X15 X6)
    | (go_at_call 10; refine (verbs_any _).mono ?_; rintro e z7 ⟨rfl, h7⟩))
  go_ret
  exact ⟨rfl, Ex.trans X16 (Ex.alloc _ _)⟩
end Go.Proofs.YtgkmfhhoifbbbaaDoor
