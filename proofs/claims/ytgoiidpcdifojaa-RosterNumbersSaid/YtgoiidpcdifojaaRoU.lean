/- walks: the law RosterNumbers -/
import Derived.Test.YtgoiidpcdifojaaRoT
namespace Go.Proofs.Ytgoiidpcdifojaa
open Go.RowKit
set_option maxRecDepth 100000 in
def Row8 (w : World) (g : Nat) : Prop := ∀ i, i < 8 → ∃ (n : Int) (p : Pt), w.cell? ⟨g, 2 * i, none⟩ = some (.int .u64 n) ∧ w.cell? ⟨g, 2 * i + 1, none⟩ = some p.V ∧ p.In w w.heap.size ∧ p.l.length ≤ 9 ∧ (rightB n p.l = true → ∃ b, b < 256 ∧ p.l = mem8 b 8)
theorem Row8.ext {w w' : World} {g : Nat} (h : Row8 w g) (hg : g < w.heap.size) (k : Ex w w') : Row8 w' g := fun i hi => by
  obtain ⟨n, p, h1, h2, h3, h4⟩ := h i hi
  exact ⟨n, p, (Below.cell (p := ⟨g, 2 * i, none⟩) k hg).trans h1, (Below.cell (p := ⟨g, 2 * i + 1, none⟩) k hg).trans h2, h3.ext k, h4⟩
theorem wp_ld45o {o : Oper} {a : Act} {w : World} {K : Act → World → Prop} {Q : Exit → Act → World → Prop} (x : Operand) (g off : Nat) (n : Int) (p : Pt) (ho : o.op = .load 45 x) (ha : a.eval x = .pointer (some ⟨g, off, none⟩)) (h0 : w.cell? ⟨g, off, none⟩ = some (.int .u64 n)) (h1 : w.cell? ⟨g, off + 1, none⟩ = some p.V) (hk : K (a.put o.dst (LV n p)) w) : o.wp Try.prog a w K Q := by
  obtain ⟨dd, hd⟩ : ∃ d, Try.prog.underlying 45 = some d ∧ d.isRow = true := ⟨_, Try.underlying45, rfl⟩
  refine wp_load_mid 45 x ho g off ha [.int .u64 n, p.V] dd (fun j v hv => ?_) hd.1 hd.2 (by rw [Try.size45]; rfl) hk
  match j, hv with
  | 0, hv => rw [← hv]; exact h0
  | 1, hv => rw [← hv]; exact h1
  | j + 2, hv => simp at hv
theorem row8_new (w : World) : Row8 ((((((((w.alloc (.cells #[.int .i64 1] 3)).alloc (.cells #[.int .i64 1] 3)).alloc (.cells #[.int .i64 2, .int .i64 1] 3)).alloc (.cells #[.int .i64 1, .int .i64 1] 3)).alloc (.cells #[.int .i64 (-1)] 3)).alloc (.cells #[.int .i64 8] 3)).alloc (.cells #[.int .i64 0, .int .i64 0, .int .i64 0, .int .i64 0, .int .i64 0, .int .i64 0, .int .i64 0, .int .i64 0, .int .i64 0] 3)).alloc (.cells #[.int .u64 0, .slice none 0 0, .int .u64 1099511627776, .slice (some ⟨w.heap.size, 0, none⟩) 1 1, .int .u64 1099511627777, .slice (some ⟨w.heap.size + 1, 0, none⟩) 1 1, .int .u64 1, .slice (some ⟨w.heap.size + 1 + 1, 0, none⟩) 2 2, .int .u64 1, .slice (some ⟨w.heap.size + 1 + 1 + 1, 0, none⟩) 2 2, .int .u64 1, .slice (some ⟨w.heap.size + 1 + 1 + 1 + 1, 0, none⟩) 1 1, .int .u64 1, .slice (some ⟨w.heap.size + 1 + 1 + 1 + 1 + 1, 0, none⟩) 1 1, .int .u64 1, .slice (some ⟨w.heap.size + 1 + 1 + 1 + 1 + 1 + 1, 0, none⟩) 9 9] 45)) (w.heap.size + 1 + 1 + 1 + 1 + 1 + 1 + 1) := by
  have c0 : Bk ((((((((w.alloc (.cells #[.int .i64 1] 3)).alloc (.cells #[.int .i64 1] 3)).alloc (.cells #[.int .i64 2, .int .i64 1] 3)).alloc (.cells #[.int .i64 1, .int .i64 1] 3)).alloc (.cells #[.int .i64 (-1)] 3)).alloc (.cells #[.int .i64 8] 3)).alloc (.cells #[.int .i64 0, .int .i64 0, .int .i64 0, .int .i64 0, .int .i64 0, .int .i64 0, .int .i64 0, .int .i64 0, .int .i64 0] 3)).alloc (.cells #[.int .u64 0, .slice none 0 0, .int .u64 1099511627776, .slice (some ⟨w.heap.size, 0, none⟩) 1 1, .int .u64 1099511627777, .slice (some ⟨w.heap.size + 1, 0, none⟩) 1 1, .int .u64 1, .slice (some ⟨w.heap.size + 1 + 1, 0, none⟩) 2 2, .int .u64 1, .slice (some ⟨w.heap.size + 1 + 1 + 1, 0, none⟩) 2 2, .int .u64 1, .slice (some ⟨w.heap.size + 1 + 1 + 1 + 1, 0, none⟩) 1 1, .int .u64 1, .slice (some ⟨w.heap.size + 1 + 1 + 1 + 1 + 1, 0, none⟩) 1 1, .int .u64 1, .slice (some ⟨w.heap.size + 1 + 1 + 1 + 1 + 1 + 1, 0, none⟩) 9 9] 45)) (w.heap.size) 3 #[.int .i64 1] := ((((((((((((((Bk.new (w := w) (g := w.heap.size) (by simp) 3 #[.int .i64 1]).more _)).more _)).more _)).more _)).more _)).more _)).more _)
  have c1 : Bk ((((((((w.alloc (.cells #[.int .i64 1] 3)).alloc (.cells #[.int .i64 1] 3)).alloc (.cells #[.int .i64 2, .int .i64 1] 3)).alloc (.cells #[.int .i64 1, .int .i64 1] 3)).alloc (.cells #[.int .i64 (-1)] 3)).alloc (.cells #[.int .i64 8] 3)).alloc (.cells #[.int .i64 0, .int .i64 0, .int .i64 0, .int .i64 0, .int .i64 0, .int .i64 0, .int .i64 0, .int .i64 0, .int .i64 0] 3)).alloc (.cells #[.int .u64 0, .slice none 0 0, .int .u64 1099511627776, .slice (some ⟨w.heap.size, 0, none⟩) 1 1, .int .u64 1099511627777, .slice (some ⟨w.heap.size + 1, 0, none⟩) 1 1, .int .u64 1, .slice (some ⟨w.heap.size + 1 + 1, 0, none⟩) 2 2, .int .u64 1, .slice (some ⟨w.heap.size + 1 + 1 + 1, 0, none⟩) 2 2, .int .u64 1, .slice (some ⟨w.heap.size + 1 + 1 + 1 + 1, 0, none⟩) 1 1, .int .u64 1, .slice (some ⟨w.heap.size + 1 + 1 + 1 + 1 + 1, 0, none⟩) 1 1, .int .u64 1, .slice (some ⟨w.heap.size + 1 + 1 + 1 + 1 + 1 + 1, 0, none⟩) 9 9] 45)) (w.heap.size + 1) 3 #[.int .i64 1] := ((((((((((((Bk.new (w := (w.alloc (.cells #[.int .i64 1] 3))) (g := w.heap.size + 1) (by simp) 3 #[.int .i64 1]).more _)).more _)).more _)).more _)).more _)).more _)
  have c2 : Bk ((((((((w.alloc (.cells #[.int .i64 1] 3)).alloc (.cells #[.int .i64 1] 3)).alloc (.cells #[.int .i64 2, .int .i64 1] 3)).alloc (.cells #[.int .i64 1, .int .i64 1] 3)).alloc (.cells #[.int .i64 (-1)] 3)).alloc (.cells #[.int .i64 8] 3)).alloc (.cells #[.int .i64 0, .int .i64 0, .int .i64 0, .int .i64 0, .int .i64 0, .int .i64 0, .int .i64 0, .int .i64 0, .int .i64 0] 3)).alloc (.cells #[.int .u64 0, .slice none 0 0, .int .u64 1099511627776, .slice (some ⟨w.heap.size, 0, none⟩) 1 1, .int .u64 1099511627777, .slice (some ⟨w.heap.size + 1, 0, none⟩) 1 1, .int .u64 1, .slice (some ⟨w.heap.size + 1 + 1, 0, none⟩) 2 2, .int .u64 1, .slice (some ⟨w.heap.size + 1 + 1 + 1, 0, none⟩) 2 2, .int .u64 1, .slice (some ⟨w.heap.size + 1 + 1 + 1 + 1, 0, none⟩) 1 1, .int .u64 1, .slice (some ⟨w.heap.size + 1 + 1 + 1 + 1 + 1, 0, none⟩) 1 1, .int .u64 1, .slice (some ⟨w.heap.size + 1 + 1 + 1 + 1 + 1 + 1, 0, none⟩) 9 9] 45)) (w.heap.size + 1 + 1) 3 #[.int .i64 2, .int .i64 1] := ((((((((((Bk.new (w := ((w.alloc (.cells #[.int .i64 1] 3)).alloc (.cells #[.int .i64 1] 3))) (g := w.heap.size + 1 + 1) (by simp) 3 #[.int .i64 2, .int .i64 1]).more _)).more _)).more _)).more _)).more _)
  have c3 : Bk ((((((((w.alloc (.cells #[.int .i64 1] 3)).alloc (.cells #[.int .i64 1] 3)).alloc (.cells #[.int .i64 2, .int .i64 1] 3)).alloc (.cells #[.int .i64 1, .int .i64 1] 3)).alloc (.cells #[.int .i64 (-1)] 3)).alloc (.cells #[.int .i64 8] 3)).alloc (.cells #[.int .i64 0, .int .i64 0, .int .i64 0, .int .i64 0, .int .i64 0, .int .i64 0, .int .i64 0, .int .i64 0, .int .i64 0] 3)).alloc (.cells #[.int .u64 0, .slice none 0 0, .int .u64 1099511627776, .slice (some ⟨w.heap.size, 0, none⟩) 1 1, .int .u64 1099511627777, .slice (some ⟨w.heap.size + 1, 0, none⟩) 1 1, .int .u64 1, .slice (some ⟨w.heap.size + 1 + 1, 0, none⟩) 2 2, .int .u64 1, .slice (some ⟨w.heap.size + 1 + 1 + 1, 0, none⟩) 2 2, .int .u64 1, .slice (some ⟨w.heap.size + 1 + 1 + 1 + 1, 0, none⟩) 1 1, .int .u64 1, .slice (some ⟨w.heap.size + 1 + 1 + 1 + 1 + 1, 0, none⟩) 1 1, .int .u64 1, .slice (some ⟨w.heap.size + 1 + 1 + 1 + 1 + 1 + 1, 0, none⟩) 9 9] 45)) (w.heap.size + 1 + 1 + 1) 3 #[.int .i64 1, .int .i64 1] := ((((((((Bk.new (w := (((w.alloc (.cells #[.int .i64 1] 3)).alloc (.cells #[.int .i64 1] 3)).alloc (.cells #[.int .i64 2, .int .i64 1] 3))) (g := w.heap.size + 1 + 1 + 1) (by simp) 3 #[.int .i64 1, .int .i64 1]).more _)).more _)).more _)).more _)
  have c4 : Bk ((((((((w.alloc (.cells #[.int .i64 1] 3)).alloc (.cells #[.int .i64 1] 3)).alloc (.cells #[.int .i64 2, .int .i64 1] 3)).alloc (.cells #[.int .i64 1, .int .i64 1] 3)).alloc (.cells #[.int .i64 (-1)] 3)).alloc (.cells #[.int .i64 8] 3)).alloc (.cells #[.int .i64 0, .int .i64 0, .int .i64 0, .int .i64 0, .int .i64 0, .int .i64 0, .int .i64 0, .int .i64 0, .int .i64 0] 3)).alloc (.cells #[.int .u64 0, .slice none 0 0, .int .u64 1099511627776, .slice (some ⟨w.heap.size, 0, none⟩) 1 1, .int .u64 1099511627777, .slice (some ⟨w.heap.size + 1, 0, none⟩) 1 1, .int .u64 1, .slice (some ⟨w.heap.size + 1 + 1, 0, none⟩) 2 2, .int .u64 1, .slice (some ⟨w.heap.size + 1 + 1 + 1, 0, none⟩) 2 2, .int .u64 1, .slice (some ⟨w.heap.size + 1 + 1 + 1 + 1, 0, none⟩) 1 1, .int .u64 1, .slice (some ⟨w.heap.size + 1 + 1 + 1 + 1 + 1, 0, none⟩) 1 1, .int .u64 1, .slice (some ⟨w.heap.size + 1 + 1 + 1 + 1 + 1 + 1, 0, none⟩) 9 9] 45)) (w.heap.size + 1 + 1 + 1 + 1) 3 #[.int .i64 (-1)] := ((((((Bk.new (w := ((((w.alloc (.cells #[.int .i64 1] 3)).alloc (.cells #[.int .i64 1] 3)).alloc (.cells #[.int .i64 2, .int .i64 1] 3)).alloc (.cells #[.int .i64 1, .int .i64 1] 3))) (g := w.heap.size + 1 + 1 + 1 + 1) (by simp) 3 #[.int .i64 (-1)]).more _)).more _)).more _)
  have c5 : Bk ((((((((w.alloc (.cells #[.int .i64 1] 3)).alloc (.cells #[.int .i64 1] 3)).alloc (.cells #[.int .i64 2, .int .i64 1] 3)).alloc (.cells #[.int .i64 1, .int .i64 1] 3)).alloc (.cells #[.int .i64 (-1)] 3)).alloc (.cells #[.int .i64 8] 3)).alloc (.cells #[.int .i64 0, .int .i64 0, .int .i64 0, .int .i64 0, .int .i64 0, .int .i64 0, .int .i64 0, .int .i64 0, .int .i64 0] 3)).alloc (.cells #[.int .u64 0, .slice none 0 0, .int .u64 1099511627776, .slice (some ⟨w.heap.size, 0, none⟩) 1 1, .int .u64 1099511627777, .slice (some ⟨w.heap.size + 1, 0, none⟩) 1 1, .int .u64 1, .slice (some ⟨w.heap.size + 1 + 1, 0, none⟩) 2 2, .int .u64 1, .slice (some ⟨w.heap.size + 1 + 1 + 1, 0, none⟩) 2 2, .int .u64 1, .slice (some ⟨w.heap.size + 1 + 1 + 1 + 1, 0, none⟩) 1 1, .int .u64 1, .slice (some ⟨w.heap.size + 1 + 1 + 1 + 1 + 1, 0, none⟩) 1 1, .int .u64 1, .slice (some ⟨w.heap.size + 1 + 1 + 1 + 1 + 1 + 1, 0, none⟩) 9 9] 45)) (w.heap.size + 1 + 1 + 1 + 1 + 1) 3 #[.int .i64 8] := ((((Bk.new (w := (((((w.alloc (.cells #[.int .i64 1] 3)).alloc (.cells #[.int .i64 1] 3)).alloc (.cells #[.int .i64 2, .int .i64 1] 3)).alloc (.cells #[.int .i64 1, .int .i64 1] 3)).alloc (.cells #[.int .i64 (-1)] 3))) (g := w.heap.size + 1 + 1 + 1 + 1 + 1) (by simp) 3 #[.int .i64 8]).more _)).more _)
  have c6 : Bk ((((((((w.alloc (.cells #[.int .i64 1] 3)).alloc (.cells #[.int .i64 1] 3)).alloc (.cells #[.int .i64 2, .int .i64 1] 3)).alloc (.cells #[.int .i64 1, .int .i64 1] 3)).alloc (.cells #[.int .i64 (-1)] 3)).alloc (.cells #[.int .i64 8] 3)).alloc (.cells #[.int .i64 0, .int .i64 0, .int .i64 0, .int .i64 0, .int .i64 0, .int .i64 0, .int .i64 0, .int .i64 0, .int .i64 0] 3)).alloc (.cells #[.int .u64 0, .slice none 0 0, .int .u64 1099511627776, .slice (some ⟨w.heap.size, 0, none⟩) 1 1, .int .u64 1099511627777, .slice (some ⟨w.heap.size + 1, 0, none⟩) 1 1, .int .u64 1, .slice (some ⟨w.heap.size + 1 + 1, 0, none⟩) 2 2, .int .u64 1, .slice (some ⟨w.heap.size + 1 + 1 + 1, 0, none⟩) 2 2, .int .u64 1, .slice (some ⟨w.heap.size + 1 + 1 + 1 + 1, 0, none⟩) 1 1, .int .u64 1, .slice (some ⟨w.heap.size + 1 + 1 + 1 + 1 + 1, 0, none⟩) 1 1, .int .u64 1, .slice (some ⟨w.heap.size + 1 + 1 + 1 + 1 + 1 + 1, 0, none⟩) 9 9] 45)) (w.heap.size + 1 + 1 + 1 + 1 + 1 + 1) 3 #[.int .i64 0, .int .i64 0, .int .i64 0, .int .i64 0, .int .i64 0, .int .i64 0, .int .i64 0, .int .i64 0, .int .i64 0] := ((Bk.new (w := ((((((w.alloc (.cells #[.int .i64 1] 3)).alloc (.cells #[.int .i64 1] 3)).alloc (.cells #[.int .i64 2, .int .i64 1] 3)).alloc (.cells #[.int .i64 1, .int .i64 1] 3)).alloc (.cells #[.int .i64 (-1)] 3)).alloc (.cells #[.int .i64 8] 3))) (g := w.heap.size + 1 + 1 + 1 + 1 + 1 + 1) (by simp) 3 #[.int .i64 0, .int .i64 0, .int .i64 0, .int .i64 0, .int .i64 0, .int .i64 0, .int .i64 0, .int .i64 0, .int .i64 0]).more _)
  have cb := Bk.new (w := (((((((w.alloc (.cells #[.int .i64 1] 3)).alloc (.cells #[.int .i64 1] 3)).alloc (.cells #[.int .i64 2, .int .i64 1] 3)).alloc (.cells #[.int .i64 1, .int .i64 1] 3)).alloc (.cells #[.int .i64 (-1)] 3)).alloc (.cells #[.int .i64 8] 3)).alloc (.cells #[.int .i64 0, .int .i64 0, .int .i64 0, .int .i64 0, .int .i64 0, .int .i64 0, .int .i64 0, .int .i64 0, .int .i64 0] 3))) (g := w.heap.size + 1 + 1 + 1 + 1 + 1 + 1 + 1) (by simp) 45 #[.int .u64 0, .slice none 0 0, .int .u64 1099511627776, .slice (some ⟨w.heap.size, 0, none⟩) 1 1, .int .u64 1099511627777, .slice (some ⟨w.heap.size + 1, 0, none⟩) 1 1, .int .u64 1, .slice (some ⟨w.heap.size + 1 + 1, 0, none⟩) 2 2, .int .u64 1, .slice (some ⟨w.heap.size + 1 + 1 + 1, 0, none⟩) 2 2, .int .u64 1, .slice (some ⟨w.heap.size + 1 + 1 + 1 + 1, 0, none⟩) 1 1, .int .u64 1, .slice (some ⟨w.heap.size + 1 + 1 + 1 + 1 + 1, 0, none⟩) 1 1, .int .u64 1, .slice (some ⟨w.heap.size + 1 + 1 + 1 + 1 + 1 + 1, 0, none⟩) 9 9]
  generalize ((((((((w.alloc (.cells #[.int .i64 1] 3)).alloc (.cells #[.int .i64 1] 3)).alloc (.cells #[.int .i64 2, .int .i64 1] 3)).alloc (.cells #[.int .i64 1, .int .i64 1] 3)).alloc (.cells #[.int .i64 (-1)] 3)).alloc (.cells #[.int .i64 8] 3)).alloc (.cells #[.int .i64 0, .int .i64 0, .int .i64 0, .int .i64 0, .int .i64 0, .int .i64 0, .int .i64 0, .int .i64 0, .int .i64 0] 3)).alloc (.cells #[.int .u64 0, .slice none 0 0, .int .u64 1099511627776, .slice (some ⟨w.heap.size, 0, none⟩) 1 1, .int .u64 1099511627777, .slice (some ⟨w.heap.size + 1, 0, none⟩) 1 1, .int .u64 1, .slice (some ⟨w.heap.size + 1 + 1, 0, none⟩) 2 2, .int .u64 1, .slice (some ⟨w.heap.size + 1 + 1 + 1, 0, none⟩) 2 2, .int .u64 1, .slice (some ⟨w.heap.size + 1 + 1 + 1 + 1, 0, none⟩) 1 1, .int .u64 1, .slice (some ⟨w.heap.size + 1 + 1 + 1 + 1 + 1, 0, none⟩) 1 1, .int .u64 1, .slice (some ⟨w.heap.size + 1 + 1 + 1 + 1 + 1 + 1, 0, none⟩) 9 9] 45)) = W at *
  intro i hi
  match i, hi with
  | 0, _ => exact ⟨0, nilP, cb.cell 0, cb.cell 1, nil_in _, by decide, fun h => absurd h (by decide)⟩
  | 1, _ => exact ⟨1099511627776, ⟨some ⟨w.heap.size, 0, none⟩, 1, [1]⟩, cb.cell 2, cb.cell 3, bk_pt (t := 3) (l := [1]) c0, by show 1 ≤ 9; decide, fun _ => ⟨2, by decide, show ([1] : List Int) = mem8 2 8 by decide⟩⟩
  | 2, _ => exact ⟨1099511627777, ⟨some ⟨w.heap.size + 1, 0, none⟩, 1, [1]⟩, cb.cell 4, cb.cell 5, bk_pt (t := 3) (l := [1]) c1, by show 1 ≤ 9; decide, fun h => absurd h (show ¬ rightB 1099511627777 [1] = true by decide)⟩
  | 3, _ => exact ⟨1, ⟨some ⟨w.heap.size + 1 + 1, 0, none⟩, 2, [2, 1]⟩, cb.cell 6, cb.cell 7, bk_pt (t := 3) (l := [2, 1]) c2, by show 2 ≤ 9; decide, fun h => absurd h (show ¬ rightB 1 [2, 1] = true by decide)⟩
  | 4, _ => exact ⟨1, ⟨some ⟨w.heap.size + 1 + 1 + 1, 0, none⟩, 2, [1, 1]⟩, cb.cell 8, cb.cell 9, bk_pt (t := 3) (l := [1, 1]) c3, by show 2 ≤ 9; decide, fun h => absurd h (show ¬ rightB 1 [1, 1] = true by decide)⟩
  | 5, _ => exact ⟨1, ⟨some ⟨w.heap.size + 1 + 1 + 1 + 1, 0, none⟩, 1, [-1]⟩, cb.cell 10, cb.cell 11, bk_pt (t := 3) (l := [-1]) c4, by show 1 ≤ 9; decide, fun h => absurd h (show ¬ rightB 1 [-1] = true by decide)⟩
  | 6, _ => exact ⟨1, ⟨some ⟨w.heap.size + 1 + 1 + 1 + 1 + 1, 0, none⟩, 1, [8]⟩, cb.cell 12, cb.cell 13, bk_pt (t := 3) (l := [8]) c5, by show 1 ≤ 9; decide, fun h => absurd h (show ¬ rightB 1 [8] = true by decide)⟩
  | 7, _ => exact ⟨1, ⟨some ⟨w.heap.size + 1 + 1 + 1 + 1 + 1 + 1, 0, none⟩, 9, [0, 0, 0, 0, 0, 0, 0, 0, 0]⟩, cb.cell 14, cb.cell 15, bk_pt (t := 3) (l := [0, 0, 0, 0, 0, 0, 0, 0, 0]) c6, by show 9 ≤ 9; decide, fun h => absurd h (show ¬ rightB 1 [0, 0, 0, 0, 0, 0, 0, 0, 0] = true by decide)⟩
  | i + 8, h => omega
set_option maxHeartbeats 8000000 in
set_option maxRecDepth 100000 in
theorem numbers_law (w : World) : Calls Try.prog 6 #[] w fun e w' => e = .returned (.bool true) ∧ Below w.heap.size w w' := by
  have KN := Lib.hid known14_any
  go_enter Try.func6, Try.ntmps6
  go_wp2_with (first | (with_reducible refine stop_load45 ?_) | (with_reducible refine stop_store45 ?_))
  go_loopw [1] (fun i wr => ∃ k : Nat, k ≤ 256 ∧ i = .int .i64 k ∧ Ex w wr) (fun i _ => 256 - (intOf i).toNat)
  case atStart => exact ⟨0, by omega, rfl, Ex.refl _⟩
  case round =>
    obtain ⟨k, hk, rfl, bw⟩ := hrel
    by_cases hlt : k < 256
    · have q0 : (0 : Int) ≤ (k : Int) := by omega
      have q1 : (k : Int) < 256 := by omega
      go_wp2_with (first | (with_reducible refine stop_load45 ?_) | (with_reducible refine stop_store45 ?_))
      go_loopw [2] (fun i wr => ∃ j : Nat, j ≤ 11 ∧ i = .int .i64 ((j : Int) - 1) ∧ Ex w wr) (fun i _ => (10 - intOf i).toNat)
      case atStart => exact ⟨0, by omega, rfl, bw⟩
      case round =>
        clear bw
        obtain ⟨j, hj, rfl, bw⟩ := hrel
        obtain ⟨jv, hjv⟩ : ∃ jv : Int, jv = (j : Int) - 1 := ⟨_, rfl⟩
        have j0 : -1 ≤ jv := by omega
        have j1 : jv ≤ 10 := by omega
        rw [← hjv]
        by_cases hlt2 : jv < 10
        · have HJ := Lib.hid hjv
          have HKL := Lib.hid hlt
          clear hjv
          go_wp2_with (first | (with_reducible refine stop_load45 ?_) | (with_reducible refine stop_store45 ?_))
          refine (list_any ((k : Int) % 3) k HKL.out _).mono ?_
          rintro e w2 ⟨q, rfl, hq, i2, x2⟩
          have c := same14 ((k : Int) % 3) jv q w2 i2 (by rw [hq]; exact Nat.le_trans (mem8_len k 8) (by decide)) (fun _ => ⟨k, HKL.out, hq⟩)
          have C := Lib.hid c
          replace bw := Ex.trans bw x2
          clear c hq i2 x2
          go_wp2_with (first | (with_reducible refine stop_load45 ?_) | (with_reducible refine stop_store45 ?_))
          refine C.out.mono ?_
          rintro e w3 ⟨rfl, x3⟩
          replace bw := Ex.trans bw x3
          clear C x3
          go_wp2_with (first | (with_reducible refine stop_load45 ?_) | (with_reducible refine stop_store45 ?_))
          go_roundw
          case rel => exact ⟨j + 1, by have := HJ.out; omega, by rw [show jv + 1 = ((j + 1 : Nat) : Int) - 1 by have := HJ.out; omega], bw⟩
          case measure => simp [intOf]; omega
        · go_wp2_with (first | (with_reducible refine stop_load45 ?_) | (with_reducible refine stop_store45 ?_))
          go_roundw
          case rel => exact ⟨k + 1, by omega, by go_num, bw⟩
          case measure => simp [intOf]; omega
    · have q2 : (256 : Int) ≤ (k : Int) := by omega
      clear hlt hk
      have hmk : ∀ W : World, (Instr.makeSlice 43 (.int .i64 9) (.int .i64 9)).run Try.prog W = .ok (.slice (some ⟨W.heap.size, 0, none⟩) 9 9) (W.alloc (.cells #[.int .i64 0, .int .i64 0, .int .i64 0, .int .i64 0, .int .i64 0, .int .i64 0, .int .i64 0, .int .i64 0, .int .i64 0] 3)) := fun W => by kernel_rfl
      go_wp2_with (first | (with_reducible refine stop_load45 ?_) | (with_reducible refine stop_store45 ?_))
      have R8 : Row8 ((((((((wr.alloc (.cells #[.int .i64 1] 3)).alloc (.cells #[.int .i64 1] 3)).alloc (.cells #[.int .i64 2, .int .i64 1] 3)).alloc (.cells #[.int .i64 1, .int .i64 1] 3)).alloc (.cells #[.int .i64 (-1)] 3)).alloc (.cells #[.int .i64 8] 3)).alloc (.cells #[.int .i64 0, .int .i64 0, .int .i64 0, .int .i64 0, .int .i64 0, .int .i64 0, .int .i64 0, .int .i64 0, .int .i64 0] 3)).alloc (.cells #[.int .u64 0, .slice none 0 0, .int .u64 1099511627776, .slice (some ⟨wr.heap.size, 0, none⟩) 1 1, .int .u64 1099511627777, .slice (some ⟨wr.heap.size + 1, 0, none⟩) 1 1, .int .u64 1, .slice (some ⟨wr.heap.size + 1 + 1, 0, none⟩) 2 2, .int .u64 1, .slice (some ⟨wr.heap.size + 1 + 1 + 1, 0, none⟩) 2 2, .int .u64 1, .slice (some ⟨wr.heap.size + 1 + 1 + 1 + 1, 0, none⟩) 1 1, .int .u64 1, .slice (some ⟨wr.heap.size + 1 + 1 + 1 + 1 + 1, 0, none⟩) 1 1, .int .u64 1, .slice (some ⟨wr.heap.size + 1 + 1 + 1 + 1 + 1 + 1, 0, none⟩) 9 9] 45)) (wr.heap.size + 1 + 1 + 1 + 1 + 1 + 1 + 1) := row8_new wr
      have xa : Ex wr ((((((((wr.alloc (.cells #[.int .i64 1] 3)).alloc (.cells #[.int .i64 1] 3)).alloc (.cells #[.int .i64 2, .int .i64 1] 3)).alloc (.cells #[.int .i64 1, .int .i64 1] 3)).alloc (.cells #[.int .i64 (-1)] 3)).alloc (.cells #[.int .i64 8] 3)).alloc (.cells #[.int .i64 0, .int .i64 0, .int .i64 0, .int .i64 0, .int .i64 0, .int .i64 0, .int .i64 0, .int .i64 0, .int .i64 0] 3)).alloc (.cells #[.int .u64 0, .slice none 0 0, .int .u64 1099511627776, .slice (some ⟨wr.heap.size, 0, none⟩) 1 1, .int .u64 1099511627777, .slice (some ⟨wr.heap.size + 1, 0, none⟩) 1 1, .int .u64 1, .slice (some ⟨wr.heap.size + 1 + 1, 0, none⟩) 2 2, .int .u64 1, .slice (some ⟨wr.heap.size + 1 + 1 + 1, 0, none⟩) 2 2, .int .u64 1, .slice (some ⟨wr.heap.size + 1 + 1 + 1 + 1, 0, none⟩) 1 1, .int .u64 1, .slice (some ⟨wr.heap.size + 1 + 1 + 1 + 1 + 1, 0, none⟩) 1 1, .int .u64 1, .slice (some ⟨wr.heap.size + 1 + 1 + 1 + 1 + 1 + 1, 0, none⟩) 9 9] 45)) := ((((((((Below.refl _ _).alloc (Nat.le_refl _) _).alloc (by simp) _).alloc (by simp; omega) _).alloc (by simp; omega) _).alloc (by simp; omega) _).alloc (by simp; omega) _).alloc (by simp; omega) _).alloc (by simp; omega) _
      have hg : wr.heap.size + 1 + 1 + 1 + 1 + 1 + 1 + 1 < ((((((((wr.alloc (.cells #[.int .i64 1] 3)).alloc (.cells #[.int .i64 1] 3)).alloc (.cells #[.int .i64 2, .int .i64 1] 3)).alloc (.cells #[.int .i64 1, .int .i64 1] 3)).alloc (.cells #[.int .i64 (-1)] 3)).alloc (.cells #[.int .i64 8] 3)).alloc (.cells #[.int .i64 0, .int .i64 0, .int .i64 0, .int .i64 0, .int .i64 0, .int .i64 0, .int .i64 0, .int .i64 0, .int .i64 0] 3)).alloc (.cells #[.int .u64 0, .slice none 0 0, .int .u64 1099511627776, .slice (some ⟨wr.heap.size, 0, none⟩) 1 1, .int .u64 1099511627777, .slice (some ⟨wr.heap.size + 1, 0, none⟩) 1 1, .int .u64 1, .slice (some ⟨wr.heap.size + 1 + 1, 0, none⟩) 2 2, .int .u64 1, .slice (some ⟨wr.heap.size + 1 + 1 + 1, 0, none⟩) 2 2, .int .u64 1, .slice (some ⟨wr.heap.size + 1 + 1 + 1 + 1, 0, none⟩) 1 1, .int .u64 1, .slice (some ⟨wr.heap.size + 1 + 1 + 1 + 1 + 1, 0, none⟩) 1 1, .int .u64 1, .slice (some ⟨wr.heap.size + 1 + 1 + 1 + 1 + 1 + 1, 0, none⟩) 9 9] 45)).heap.size := by simp
      replace bw := Ex.trans bw xa
      clear xa hmk
      generalize ((((((((wr.alloc (.cells #[.int .i64 1] 3)).alloc (.cells #[.int .i64 1] 3)).alloc (.cells #[.int .i64 2, .int .i64 1] 3)).alloc (.cells #[.int .i64 1, .int .i64 1] 3)).alloc (.cells #[.int .i64 (-1)] 3)).alloc (.cells #[.int .i64 8] 3)).alloc (.cells #[.int .i64 0, .int .i64 0, .int .i64 0, .int .i64 0, .int .i64 0, .int .i64 0, .int .i64 0, .int .i64 0, .int .i64 0] 3)).alloc (.cells #[.int .u64 0, .slice none 0 0, .int .u64 1099511627776, .slice (some ⟨wr.heap.size, 0, none⟩) 1 1, .int .u64 1099511627777, .slice (some ⟨wr.heap.size + 1, 0, none⟩) 1 1, .int .u64 1, .slice (some ⟨wr.heap.size + 1 + 1, 0, none⟩) 2 2, .int .u64 1, .slice (some ⟨wr.heap.size + 1 + 1 + 1, 0, none⟩) 2 2, .int .u64 1, .slice (some ⟨wr.heap.size + 1 + 1 + 1 + 1, 0, none⟩) 1 1, .int .u64 1, .slice (some ⟨wr.heap.size + 1 + 1 + 1 + 1 + 1, 0, none⟩) 1 1, .int .u64 1, .slice (some ⟨wr.heap.size + 1 + 1 + 1 + 1 + 1 + 1, 0, none⟩) 9 9] 45)) = wz at *
      generalize wr.heap.size + 1 + 1 + 1 + 1 + 1 + 1 + 1 = g at *
      have R8 := Lib.hid R8
      have HG := Lib.hid hg
      clear hg
      go_loopw [39] (fun i wr => ∃ m : Nat, m ≤ 8 ∧ i = .int .i64 m ∧ Hid (Row8 wr g) ∧ Hid (g < wr.heap.size) ∧ Ex w wr) (fun i _ => 8 - (intOf i).toNat)
      case atStart => exact ⟨0, by omega, rfl, R8, HG, bw⟩
      case round =>
        clear R8 HG bw
        obtain ⟨m, hm, rfl, R8, HG, bw⟩ := hrel
        by_cases hlt : m < 8
        · have q0 : (0 : Int) ≤ (m : Int) := by omega
          have q1 : (m : Int) < 8 := by omega
          obtain ⟨n, p, h1, h2, h3, h4, h5⟩ := R8.out m hlt
          have H1 := Lib.hid h1
          have H2 := Lib.hid h2
          have H3 := Lib.hid h3
          have H4 := Lib.hid h4
          have H5 := Lib.hid h5
          clear h1 h2 h3 h4 h5
          go_wp2_with (first | (with_reducible refine stop_load45 ?_) | (with_reducible refine stop_store45 ?_))
          (with_reducible refine ⟨?_⟩); (with_reducible refine at_any ?_ ?_); (focus go_simp); refine fun K hK => wp_ld45o _ g (2 * m) n p rfl (by first | rfl | (simp [Act.eval]; done) | (simp [Act.eval]; omega)) H1.out H2.out (hK _ _ ?_)
          clear hK
          go_wp2_with (first | (with_reducible refine stop_load45 ?_) | (with_reducible refine stop_store45 ?_))
          (with_reducible refine ⟨?_⟩); (with_reducible refine at_any ?_ ?_); (focus go_simp); refine fun K hK => wp_st45 _ _ wr.heap.size n 0 p nilP rfl rfl rfl (Bk.new rfl _ _) (fun w2 hd ho => hK _ _ ?_)
          have JP := Lib.hid ((H3.out.ext ((Below.refl _ _).alloc (Nat.le_refl _) _)).st (n := 0) (q := nilP) ho (Bk.new rfl _ _))
          have xs := ho.ex
          replace R8 := Lib.hid (R8.out.ext HG.out xs)
          replace HG := Lib.hid (Nat.lt_of_lt_of_le HG.out xs.size)
          replace bw := Ex.trans bw xs
          generalize wr.heap.size = g4 at hd ⊢
          have P := Lib.hid hd
          clear hK ho hd xs H1 H2 H3
          go_wp2_with (first | (with_reducible refine stop_load45 ?_) | (with_reducible refine stop_store45 ?_))
          go_loopw [5] (fun i wr => ∃ j : Nat, j ≤ 11 ∧ i = .int .i64 ((j : Int) - 1) ∧ Hid (Row8 wr g) ∧ Hid (g < wr.heap.size) ∧ Hid (LB wr g4 n p) ∧ Hid (p.In wr wr.heap.size) ∧ Ex w wr) (fun i _ => (10 - intOf i).toNat)
          case atStart => exact ⟨0, by omega, rfl, R8, HG, P, JP, bw⟩
          case round =>
            clear R8 HG P JP bw
            obtain ⟨j, hj, rfl, R8, HG, P, JP, bw⟩ := hrel
            obtain ⟨jv, hjv⟩ : ∃ jv : Int, jv = (j : Int) - 1 := ⟨_, rfl⟩
            have j0 : -1 ≤ jv := by omega
            have j1 : jv ≤ 10 := by omega
            rw [← hjv]
            by_cases hlt2 : jv < 10
            · have HJ := Lib.hid hjv
              have C := Lib.hid (same14 n jv p _ JP.out (Nat.le_trans H4.out (by decide)) H5.out)
              clear hjv
              go_wp2_with (first | (with_reducible refine stop_load45 ?_) | (with_reducible refine stop_store45 ?_))
              (with_reducible refine ⟨?_⟩); (with_reducible refine at_any ?_ ?_); (focus go_simp); refine fun K hK => wp_ld45 _ g4 n p rfl rfl P.out (hK _ _ ?_)
              clear hK
              go_wp2_with (first | (with_reducible refine stop_load45 ?_) | (with_reducible refine stop_store45 ?_))
              refine C.out.mono ?_
              rintro e w3 ⟨rfl, x3⟩
              have r8 := Lib.hid (R8.out.ext HG.out x3)
              have hg := Lib.hid (Nat.lt_of_lt_of_le HG.out x3.size)
              have pp := Lib.hid (LB.ext P.out x3)
              have jp := Lib.hid (Pt.In.ext JP.out x3)
              have bw3 := Ex.trans bw x3
              clear C x3 R8 HG P JP bw
              go_wp2_with (first | (with_reducible refine stop_load45 ?_) | (with_reducible refine stop_store45 ?_))
              go_roundw
              case rel => exact ⟨j + 1, by have := HJ.out; omega, by rw [show jv + 1 = ((j + 1 : Nat) : Int) - 1 by have := HJ.out; omega], r8, hg, pp, jp, bw3⟩
              case measure => simp [intOf]; omega
            · go_wp2_with (first | (with_reducible refine stop_load45 ?_) | (with_reducible refine stop_store45 ?_))
              go_roundw
              case rel => exact ⟨m + 1, by omega, by go_num, R8, HG, bw⟩
              case measure => simp [intOf]; omega
        · go_wp2_with (first | (with_reducible refine stop_load45 ?_) | (with_reducible refine stop_store45 ?_))
          refine (KN.out _).mono ?_
          rintro e w3 ⟨rfl, x3⟩
          replace bw := Ex.trans bw x3
          go_wp2_with (first | (with_reducible refine stop_load45 ?_) | (with_reducible refine stop_store45 ?_))
          go_ret
          exact ⟨rfl, bw⟩
end Go.Proofs.Ytgoiidpcdifojaa
