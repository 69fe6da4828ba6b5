/- What the program parses of two texts. -/
import Derived.Test.YtgkmfhhoifbbbaaDoorYo
import Derived.Great.BuildSlice
import Derived.ArgAppend
import Derived.Deep.Upon
namespace Go.Proofs.YtgkmfhhoifbbbaaDoor
open Go Go.RowKit
/-- a slice of one struct -/
theorem wp_bs1 {o : Oper} {a : Act} {w : World} {K : Act → World → Prop} {Q : Exit → Act → World → Prop} (t e : TypeId) (z : Value) (sz bytes : Nat) (y : Operand) (C : List Value) (ho : o.op = .buildSlice t 1 #[(0, y)]) (hu : Tryd.prog.underlying t = some (.slice e))
  (hinfo : (Tryd.prog.info? e).map (fun i => (i.zero, i.size, i.bytes)) = some (some z, sz, bytes)) (hz : z.cells.size = sz) (hp : 0 < sz) (hs : sz ≤ 1000) (hC : C.length = sz) (hy : a.eval y = .agg C.toArray)
  (hk : K (a.put o.dst (.slice (some ⟨w.heap.size, 0, none⟩) 1 1)) (w.alloc (.cells C.toArray e))) : o.wp Tryd.prog a w K Q := by
 obtain ⟨i0, hi0, hz0, hz1, hz2⟩ := info_parts hinfo
 refine wp_buildSlice t e 1 #[(0, y)] ho C.toArray i0 z hu hi0 hz0 (by rw [hz1]; omega) (by rw [hz1]; omega) ?_ hk
 have h := Great.fill_whole (s := sz) hp [.agg C.toArray] ((Array.range (1 * sz)).map (z.cells[· % z.cells.size]!)) (fun v hv => by rw [List.mem_singleton.1 hv]; show C.toArray.size = sz; simpa using hC) (by simp)
 rw [hz1]
 have e1 : ((#[(0, y)] : Array (Nat × Operand)).map fun x => (x.1, a.eval x.2)).toList = ([Value.agg C.toArray].zipIdx 0).map fun x => (x.2, x.1) := by simp [hy]
 refine (congrArg _ e1).trans (h.trans ?_)
 simp [Value.cells]
theorem infoStep : (Tryd.prog.info? 37).map (fun i => (i.zero, i.size, i.bytes)) = some (some (.agg (stepZ 0).toArray), 67, 224) := by kernel_rfl
theorem cut_settle : cutV [115, 101, 116, 116, 108, 101, 10] = .tuple #[.string ⟨([115, 101, 116, 116, 108, 101] : List UInt8).toArray⟩, .string ⟨#[]⟩, .bool true] := by kernel_rfl
theorem cut_bad : cutV [100, 101, 108, 105, 118, 101, 114, 32, 48, 49, 10] = .tuple #[.string ⟨([100, 101, 108, 105, 118, 101, 114, 32, 48, 49] : List UInt8).toArray⟩, .string ⟨#[]⟩, .bool true] := by kernel_rfl
def sx7 : Op → Bool
  | .buildSlice t _ _ => t == 25
  | _ => false
theorem so7 {ops : Array Oper} {rest : List Oper} {o : Oper} {a : Act} {w : World} {Q : Exit → Act → World → Prop} {P : Program} (h : sx7 o.op = true) (k : Stop (wpList P ops Q (o :: rest) a w)) : wpList P ops Q (o :: rest) a w := k.go
set_option maxHeartbeats 8000000 in
set_option maxRecDepth 100000 in
theorem parse_bad (w : World) : Calls Tryd.prog 18 #[.string ⟨([100, 101, 108, 105, 118, 101, 114, 32, 48, 49, 10] : List UInt8).toArray⟩] w fun e w' => e = .returned (.tuple #[.slice none 0 0, .int .i64 0]) ∧ Below w.heap.size w w' := by
  go_enter Tryd.func18, Tryd.ntmps18
  go_wp2
  go_loopw [0, 4, 5] (fun s v i wr => s = .string ⟨([100, 101, 108, 105, 118, 101, 114, 32, 48, 49, 10] : List UInt8).toArray⟩ ∧ i = .int .i64 0 ∧ wr = w)
    (fun _ _ _ _ => 0)
  case atStart => exact ⟨rfl, rfl, rfl⟩
  case round =>
    obtain ⟨rfl, rfl, rfl⟩ := hrel
    go_wp2_with (first
      | ((with_reducible refine so4 [37, 1000 + 37] ?_ ?_); (focus rfl))
      | (go_at_call 31; refine (cut_any [100, 101, 108, 105, 118, 101, 114, 32, 48, 49, 10] (by decide) _).mono ?_; rintro e z1 ⟨rfl, X1⟩; rw [cut_bad])
      | (go_at_call 32; refine (read_bad _).mono ?_; rintro e z2 ⟨rfl, X2⟩))
    have X12 := Ex.trans X1 X2
    have x0 := Ex.alloc z2 (.cells Tryd.zeroCells37 37)
    (with_reducible refine ⟨?_⟩); (with_reducible refine at_any ?_ ?_); (focus go_simp); refine fun K0 hK => wp_stp (C := stepZ 0) (stepZ 0) _ _ z2.heap.size 0 rfl rfl rfl (step_new z2) (by decide) (by rw [sizeStep, stepZ_len]) stepZ_one (fun z3 hd ho => hK _ _ ?_)
    clear hK
    have X13 := Ex.trans X12 (ho.below _ (Nat.le_refl _) _ x0)
    clear hd ho x0 X1 X2 X12
    go_wp2
    go_ret2
    exact ⟨rfl, X13⟩
set_option maxHeartbeats 8000000 in
set_option maxRecDepth 100000 in
theorem parse_settle (w : World) : Calls Tryd.prog 18 #[.string ⟨([115, 101, 116, 116, 108, 101, 10] : List UInt8).toArray⟩] w fun e w' => (∃ g c : Nat, e = .returned (.tuple #[.slice (some ⟨g, 0, none⟩) 1 c, .int .i64 (-1)]) ∧ w'.cell? ⟨g, 0, none⟩ = some (.int .i64 14) ∧ g < w'.heap.size) ∧ Below w.heap.size w w' := by
  obtain ⟨i0, hi, hz0, hz1, hz2⟩ := info_parts infoStep
  go_enter Tryd.func18, Tryd.ntmps18
  go_wp2
  go_loopw [0, 4, 5] (fun s v i wr => Ex w wr ∧ ((s = .string ⟨([115, 101, 116, 116, 108, 101, 10] : List UInt8).toArray⟩ ∧ v = .slice none 0 0 ∧ i = .int .i64 0) ∨ (s = .string ⟨#[]⟩ ∧ i = .int .i64 1 ∧ wr.ownsRow w.heap.size 37 67 v 1 (stepZ 14))))
    (fun _ _ i _ => 1 - ixOf i)
  case atStart => exact ⟨Below.refl _ _, .inl ⟨rfl, rfl, rfl⟩⟩
  case round =>
    obtain ⟨hX, hh⟩ := hrel
    rcases hh with ⟨rfl, rfl, rfl⟩ | ⟨rfl, rfl, hO⟩
    · go_wp2_with (first
        | ((with_reducible refine so4 [37, 1000 + 37] ?_ ?_); (focus rfl))
        | (go_at_call 31; refine (cut_any [115, 101, 116, 116, 108, 101, 10] (by decide) _).mono ?_; rintro e z1 ⟨rfl, X1⟩; rw [cut_settle])
        | (go_at_call 32; refine (read_settle _).mono ?_; rintro e z2 ⟨rfl, X2⟩))
      have X12 := Ex.trans (Ex.trans hX X1) X2
      have x0 := Ex.alloc z2 (.cells Tryd.zeroCells37 37)
      (with_reducible refine ⟨?_⟩); (with_reducible refine at_any ?_ ?_); (focus go_simp); refine fun K0 hK => wp_stp (C := stepZ 0) (stepZ 14) _ _ z2.heap.size 0 rfl rfl rfl (step_new z2) (by decide) (by rw [sizeStep, stepZ_len]) (stepZ_onec 14).arr (fun z3 hd ho => hK _ _ ?_)
      clear hK
      have X13 := Ex.trans X12 (ho.below _ (Nat.le_refl _) _ x0)
      have P3 : Bk z3 z2.heap.size 37 (stepZ 14).toArray := hd
      clear hd ho x0 X1 X2 X12 hX
      go_wp2_with ((with_reducible refine so4 [37, 1000 + 37] ?_ ?_); (focus rfl))
      (with_reducible refine ⟨?_⟩); (with_reducible refine at_any ?_ ?_); (focus go_simp); refine fun K0 hK => wp_ldp (C := stepZ 14) (stepZ 14) _ z2.heap.size 0 _ rfl rfl P3 rfl Tryd.underlying37 rfl (by rw [sizeStep, stepZ_len]) (hK _ _ ?_)
      clear hK
      go_wp2_with ((with_reducible refine so7 ?_ ?_); (focus rfl))
      (with_reducible refine ⟨?_⟩); (with_reducible refine at_any ?_ ?_); (focus go_simp); refine fun K0 hK => wp_bs1 25 37 _ 67 224 _ (stepZ 14) rfl Tryd.underlying25 infoStep rfl (by decide) (by decide) rfl rfl (hK _ _ ?_)
      clear hK
      have D4 : Bk (z3.alloc (.cells (stepZ 14).toArray 37)) z3.heap.size 37 (stepZ 14).toArray := Bk.new rfl _ _
      have X14 := Ex.trans X13 (Ex.alloc z3 (.cells (stepZ 14).toArray 37))
      have hs13 := X13.size
      go_wp2_with (at_builtin; refine wpList_append_own _ rfl _ _ 25 rfl w.heap.size 37 i0 (.agg (stepZ 0).toArray) 67 224 Tryd.underlying25 hi hz0 hz1 hz2 rfl (by decide) _ 0 [] rfl (World.ownsRow_nil _ _ _ _) ⟨z3.heap.size, 0, none⟩ 1 1 (stepZ 14) rfl rfl ?c1 ?c2 ?c3 ?c4 ?c5 ?_)
      case c1 =>
        intro j u hj
        have e1 : (⟨z3.heap.size, 0, none⟩ : Addr).add j = ⟨z3.heap.size, j, none⟩ := by rw [Addr.add_lit]; simp
        rw [e1, D4.cell]
        simpa using hj
      case c2 => exact stepZ_onec 14
      case c3 => unfold maxLen; decide
      case c4 => decide
      case c5 => simp; omega
      intro v' w4 hown hgrow _
      have X5 : Below w.heap.size w w4 := X14.grown hgrow (by simp; omega) (fun k hk => by cases hk)
      have hO4 : w4.ownsRow w.heap.size 37 67 v' 1 (stepZ 14) := hown
      clear hown hgrow
      go_wp2
      go_roundw
      case rel => exact ⟨X5, .inr ⟨rfl, rfl, hO4⟩⟩
      case measure => simp [ixOf]
    · go_wp2
      go_ret2
      refine ⟨?_, hX⟩
      rcases hO.2 with ⟨rfl, h0⟩ | ⟨g, cap, cur, rfl, _, hg, _⟩
      · cases h0
      · refine ⟨g, cap, rfl, ?_, (Array.getElem?_eq_some_iff.1 hg).1⟩
        have := hO.cells (g := g) rfl 0 (.int .i64 14) rfl
        exact this
end Go.Proofs.YtgkmfhhoifbbbaaDoor
