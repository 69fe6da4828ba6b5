/- disks: Sync, Copy -/
import Derived.Test.YtgoiidpcdifojaaLb
import Derived.Test.YtgoiidpcdifojaaQtA
import Derived.BigQuiet
namespace Go.Proofs.Ytgoiidpcdifojaa
open Go.RowKit
theorem stop_load {P : Program} {ops : Array Oper} {rest : List Oper} {d : Option Tmp} {ty : TypeId} {x : Operand} {t2 : TypeId} {pos : String} {af : Array Edge} {g : Option (Nat × Bool)} {a : Act} {w : World} {Q : Exit → Act → World → Prop}
    (k : Stop (wpList P ops Q ({ dst := d, op := .load ty x, type := t2, pos := pos, after := af, guard := g } :: rest) a w)) : wpList P ops Q ({ dst := d, op := .load ty x, type := t2, pos := pos, after := af, guard := g } :: rest) a w := k.go
theorem stop_store {P : Program} {ops : Array Oper} {rest : List Oper} {d : Option Tmp} {ty : TypeId} {x y : Operand} {t2 : TypeId} {pos : String} {af : Array Edge} {g : Option (Nat × Bool)} {a : Act} {w : World} {Q : Exit → Act → World → Prop}
    (k : Stop (wpList P ops Q ({ dst := d, op := .store ty x y, type := t2, pos := pos, after := af, guard := g } :: rest) a w)) : wpList P ops Q ({ dst := d, op := .store ty x y, type := t2, pos := pos, after := af, guard := g } :: rest) a w := k.go
theorem Try.size70 : (Try.prog.info? 70).map (·.size) = some 20 := by kernel_rfl
theorem Try.size69 : (Try.prog.info? 69).map (·.size) = some 2 := by kernel_rfl
theorem Try.size72 : (Try.prog.info? 72).map (·.size) = some 43 := by kernel_rfl
theorem slC_one (l : List (Bool × Sm.Pt)) : ∀ u ∈ slC l, u.oneCell' = true := fun u hu => by
  unfold slC at hu
  rw [List.mem_flatMap] at hu
  obtain ⟨x, _, hx⟩ := hu
  simp at hx
  rcases hx with rfl | rfl
  · rfl
  · unfold Sm.Pt.V; rfl
theorem dk_parts (A B E : List Value) (hA : A.length = 20) (hB : B.length = 20) (X : List Value) (hX : X.length = 20) : (A ++ B ++ E).take 20 ++ X ++ (A ++ B ++ E).drop (20 + X.length) = A ++ X ++ E ∧ (A ++ B ++ E).take 0 ++ X ++ (A ++ B ++ E).drop (0 + X.length) = X ++ B ++ E := by
  have e : A ++ B ++ E = A ++ (B ++ E) := List.append_assoc ..
  have t20 : (A ++ B ++ E).take 20 = A := by rw [e]; exact List.take_left' hA
  have d20 : (A ++ B ++ E).drop 20 = B ++ E := by rw [e]; exact List.drop_left' hA
  have d40 : (A ++ B ++ E).drop 40 = E := List.drop_left' (by simp; omega)
  rw [hX, t20, d40, Nat.zero_add, d20, List.take_zero, List.nil_append, List.append_assoc X]
  exact ⟨rfl, rfl⟩
theorem dk_tail (A B : List Value) (hA : A.length = 20) (hB : B.length = 20) (a b c x : Value) (k : Nat) (E : List Value) (hE : [a, b, c].set k x = E) : (A ++ B ++ [a, b, c]).toArray.setIfInBounds (40 + k) x = (A ++ B ++ E).toArray := by
  rw [List.setIfInBounds_toArray, List.set_append_right _ _ (by simp; omega), ← hE]
  congr 3
  simp; omega
theorem dk_s0 (A B : List Value) (hA : A.length = 20) (hB : B.length = 20) (a b c x : Value) : (A ++ B ++ [a, b, c]).toArray.setIfInBounds 40 x = (A ++ B ++ [x, b, c]).toArray := dk_tail A B hA hB a b c x 0 _ rfl
theorem dk_s1 (A B : List Value) (hA : A.length = 20) (hB : B.length = 20) (a b c x : Value) : (A ++ B ++ [a, b, c]).toArray.setIfInBounds 41 x = (A ++ B ++ [a, x, c]).toArray := dk_tail A B hA hB a b c x 1 _ rfl
theorem dk_s2 (A B : List Value) (hA : A.length = 20) (hB : B.length = 20) (a b c x : Value) : (A ++ B ++ [a, b, c]).toArray.setIfInBounds 42 x = (A ++ B ++ [a, b, x]).toArray := dk_tail A B hA hB a b c x 2 _ rfl
theorem dk_at (A B : List Value) (hA : A.length = 20) (hB : B.length = 20) (E : List Value) (k : Nat) : (A ++ B ++ E).toArray[40 + k]? = E[k]? := by
  rw [List.getElem?_toArray, List.getElem?_append_right (by simp; omega)]
  congr 1; simp; omega
theorem md_set (g i : Nat) (v : Value) (w : World) : Md g w (w.setCell ⟨g, i, none⟩ v) :=
  ⟨fun B hB a h => h.setCell (p := ⟨g, i, none⟩) hB v, fun k hk _ => Below.heap_setCell _ _ _ _ hk, by simp [World.setCell]⟩
section
variable {o : Oper} {a : Act} {w : World} {K : Act → World → Prop} {Q : Exit → Act → World → Prop}
theorem slC20 {l : List (Bool × Sm.Pt)} (h : l.length = 10) : (slC l).length = 20 := by rw [slC_len, h]
theorem dk_now_range {d : Dk} {g : Nat} (h : d.At w g) : w.rangeAt g 0 (slC d.now) := fun j v hv => by
  rw [h.blk.cell, Nat.zero_add]
  unfold Dk.C
  rw [List.getElem?_toArray, List.append_assoc, List.getElem?_append_left (List.getElem?_eq_some_iff.1 hv).1]
  exact hv
theorem dk_las_range {d : Dk} {g : Nat} (h : d.At w g) : w.rangeAt g 20 (slC d.las) := fun j v hv => by
  rw [h.blk.cell]
  unfold Dk.C
  have hj := (List.getElem?_eq_some_iff.1 hv).1
  rw [List.getElem?_toArray, List.append_assoc, List.getElem?_append_right (by rw [slC20 h.n10]; omega), slC20 h.n10, show 20 + j - 20 = j by omega, List.getElem?_append_left hj]
  exact hv
theorem wp_ld70 (x : Operand) (g off : Nat) (l : List (Bool × Sm.Pt)) (hl : l.length = 10) (ho : o.op = .load 70 x) (ha : a.eval x = .pointer (some ⟨g, off, none⟩)) (h : w.rangeAt g off (slC l)) (hk : K (a.put o.dst (.agg (slC l).toArray)) w) : o.wp Try.prog a w K Q := by
  obtain ⟨dd, hd⟩ : ∃ d, Try.prog.underlying 70 = some d ∧ d.isRow = true := ⟨_, Try.underlying70, rfl⟩
  exact wp_load_mid 70 x ho g off ha (slC l) dd h hd.1 hd.2 (by rw [Try.size70, slC20 hl]) hk
theorem wp_st70 (x y : Operand) (g off : Nat) (l : List (Bool × Sm.Pt)) (hl : l.length = 10) (ho : o.op = .store 70 x y) (ha : a.eval x = .pointer (some ⟨g, off, none⟩)) (hy : a.eval y = .agg (slC l).toArray) (C : List Value) (hB : Bk w g 72 C.toArray) (hC : off + 20 ≤ C.length)
    (hk : ∀ w', Bk w' g 72 (C.take off ++ slC l ++ C.drop (off + (slC l).length)).toArray → Only g w w' → K (a.put o.dst undef) w') : o.wp Try.prog a w K Q := by
  have hl20 := slC20 hl
  refine wp_store_mid 70 x y ho g off (slC l).toArray ha hy (Bk.there hB off _ (by simp; omega)) (by rw [Try.size70]; simp [hl20]) (all_oneCell_toArray (slC_one l)) (hk _ ?_ ?_)
  · exact seg_set (slC l) off C (by omega) w g 72 hB
  · exact Only.setCells g _ off w
end
def syncC (c : Dc) : Dc := ⟨c.now, c.now, 0, c.lst, []⟩
def MdPost (g : Nat) (c : Dc) (w : World) (e : Ending) (w' : World) : Prop := e = .returned (.tuple #[]) ∧ DK w' g c ∧ Md g w w'
set_option maxHeartbeats 4000000 in
set_option maxRecDepth 100000 in
theorem sync_any (g : Nat) (c : Dc) (w : World) (h : DK w g c) : Calls Try.prog 17 #[.pointer (some ⟨g, 0, none⟩)] w (MdPost g (syncC c) w) := by
  obtain ⟨d, hd, hc⟩ := h
  have HD := Lib.hid hd
  have HCT := Lib.hid hc
  clear hd hc
  go_enter Try.func17, Try.ntmps17
  go_wp2_with (first | (with_reducible refine stop_load ?_) | (with_reducible refine stop_store ?_))
  (with_reducible refine ⟨?_⟩); (with_reducible refine at_any ?_ ?_); (focus go_simp); refine fun K0 hK => wp_ld70 _ g 0 d.now HD.out.n10 rfl rfl (dk_now_range HD.out) (hK _ _ ?_)
  clear hK
  go_wp2_with (first | (with_reducible refine stop_load ?_) | (with_reducible refine stop_store ?_))
  (with_reducible refine ⟨?_⟩); (with_reducible refine at_any ?_ ?_); (focus go_simp); refine fun K0 hK => wp_st70 _ _ g 20 d.now HD.out.n10 rfl rfl rfl (slC d.now ++ slC d.las ++ [.int .i64 d.pend, .int .i64 d.lst, d.put.V]) HD.out.blk (by simp [slC20 HD.out.n10, slC20 HD.out.l10]) (fun w2 hb ho => hK _ _ ?_)
  rw [(dk_parts (slC d.now) (slC d.las) _ (slC20 HD.out.n10) (slC20 HD.out.l10) (slC d.now) (slC20 HD.out.n10)).1] at hb
  have n20 := Lib.hid (slC20 HD.out.n10)
  have HB := Lib.hid hb
  have M2 := Lib.hid ho.md
  have c40 : w2.cell? ⟨g, 40, none⟩ = some (.int .i64 d.pend) := (hb.cell 40).trans (dk_at _ _ n20.out n20.out _ 0)
  have r40 : w2.frozen? ⟨g, 40, none⟩ = false := hb.fr 40
  have c42 : w2.cell? ⟨g, 42, none⟩ = some d.put.V := (hb.cell 42).trans (dk_at _ _ n20.out n20.out _ 2)
  have r42 : w2.frozen? ⟨g, 42, none⟩ = false := hb.fr 42
  clear hK ho hb
  go_wp2_with fail
  go_end0
  have b3 := (HB.out.put 40 (.int .i64 0)).put 42 (.slice none 0 0)
  rw [dk_s0 _ _ n20.out n20.out, dk_s2 _ _ n20.out n20.out] at b3
  have m1 : Md g w2 ((w2.setCell ⟨g, 40, none⟩ (.int .i64 0)).setCell ⟨g, 42, none⟩ (.slice none 0 0)) := (md_set g 40 _ w2).trans (md_set g 42 _ _)
  have mm := M2.out.trans m1
  have hd := HD.out
  refine ⟨rfl, ⟨⟨d.now, d.now, 0, d.lst, nilB⟩, ⟨b3, hd.n10, hd.n10, fun i x hx => pt_md (hd.nin i x hx) hd.blk mm, fun i x hx => pt_md (hd.nin i x hx) hd.blk mm, nilB_in _ _⟩, ?_⟩, mm⟩
  rw [← HCT.out]; rfl
end Go.Proofs.Ytgoiidpcdifojaa
