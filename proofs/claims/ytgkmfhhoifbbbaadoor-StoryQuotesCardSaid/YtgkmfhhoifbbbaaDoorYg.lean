/- A line that is read word by word: its block; blank and word. -/
import Derived.Test.YtgkmfhhoifbbbaaDoorYf
import Derived.Test.YtgkmfhhoifbbbaaDoorShelg
import Derived.Lib.BufferMore
namespace Go.Proofs.YtgkmfhhoifbbbaaDoor
open Go Go.RowKit
/-- all but block b stands as it stood -/
structure Tk (b : Nat) (w w' : World) : Prop where
  os : w'.os = w.os
  tape : w'.tape = w.tape
  output : w'.output = w.output
  size : w.heap.size ≤ w'.heap.size
  block : ∀ k, k < w.heap.size → k ≠ b → w'.heap[k]? = w.heap[k]?
theorem Tk.refl (b : Nat) (w : World) : Tk b w w := ⟨rfl, rfl, rfl, Nat.le_refl _, fun _ _ _ => rfl⟩
theorem Tk.trans {b : Nat} {w w1 w2 : World} (h : Tk b w w1) (k : Tk b w1 w2) : Tk b w w2 :=
  ⟨k.os.trans h.os, k.tape.trans h.tape, k.output.trans h.output, Nat.le_trans h.size k.size, fun i hi hb => (k.block i (Nat.lt_of_lt_of_le hi h.size) hb).trans (h.block i hi hb)⟩
theorem Tk.of {b : Nat} {w w' : World} (h : Below w.heap.size w w') : Tk b w w' := ⟨h.os, h.tape, h.output, h.size, fun k hk _ => h.block k hk⟩
theorem Tk.set {b : Nat} {a w : World} (h : Tk b a w) (i : Nat) (v : Value) : Tk b a (w.setCell ⟨b, i, none⟩ v) :=
  ⟨h.os, h.tape, h.output, by rw [World.size_setCell]; exact h.size, fun k hk hb => (Below.heap_setCell w ⟨b, i, none⟩ v k hb).trans (h.block k hk hb)⟩
theorem Tk.drew {b : Nat} {a w : World} (h : Tk b a w) : Tk b a w.drew := ⟨h.os, h.tape, h.output, h.size, h.block⟩
theorem Tk.below {b B : Nat} {w w' : World} (h : Tk b w w') (hB : B ≤ b) (hw : B ≤ w.heap.size) : Below B w w' := ⟨h.os, h.tape, h.output, h.size, fun k hk => h.block k (by omega) (by omega)⟩
theorem Tk.cell {b : Nat} {w w' : World} (h : Tk b w w') {g j : Nat} (hg : g < w.heap.size) (hne : g ≠ b) : w'.cell? ⟨g, j, none⟩ = w.cell? ⟨g, j, none⟩ := World.cell?_of_block (w := w) (h.block g hg hne)
def LN (b : Nat) (r : List UInt8) (x : Bool) (w : World) : Prop := w.heap[b]? = some (.cells #[.string ⟨r.toArray⟩, .bool x] 83 (0, 0))
theorem LN.c0 {b : Nat} {r : List UInt8} {x : Bool} {w : World} (h : LN b r x w) : w.cell? ⟨b, 0, none⟩ = some (.string ⟨r.toArray⟩) := by rw [Lib.cell_of_heap h]; rfl
theorem LN.c1 {b : Nat} {r : List UInt8} {x : Bool} {w : World} (h : LN b r x w) : w.cell? ⟨b, 1, none⟩ = some (.bool x) := by rw [Lib.cell_of_heap h]; rfl
theorem LN.fz {b : Nat} {r : List UInt8} {x : Bool} {w : World} (h : LN b r x w) (i : Nat) : w.frozen? ⟨b, i, none⟩ = false := Lib.frozen_of_heap h i
theorem LN.set0 {b : Nat} {r r' : List UInt8} {x : Bool} {w : World} (h : LN b r x w) : LN b r' x (w.setCell ⟨b, 0, none⟩ (.string ⟨r'.toArray⟩)) := Lib.heap_setCell_same h _
theorem LN.set1 {b : Nat} {r : List UInt8} {x x' : Bool} {w : World} (h : LN b r x w) : LN b r x' (w.setCell ⟨b, 1, none⟩ (.bool x')) := Lib.heap_setCell_same h _
theorem LN.lt {b : Nat} {r : List UInt8} {x : Bool} {w : World} (h : LN b r x w) : b < w.heap.size := (Array.getElem?_eq_some_iff.1 h).1
theorem LN.kept {b : Nat} {r : List UInt8} {x : Bool} {w w' : World} (h : LN b r x w) (hb : Below w.heap.size w w') : LN b r x w' := (hb.block b h.lt).trans h
def isB (r : List UInt8) : Bool := Lib.hasPrefix r [32]
def blankR (r : List UInt8) : List UInt8 := Lib.trimPrefix r [32]
set_option maxHeartbeats 2000000 in
set_option maxRecDepth 100000 in
theorem blank_any (b : Nat) (r : List UInt8) (x : Bool) (w : World) (h : LN b r x w) :
    Calls Tryd.prog 84 #[.pointer (some ⟨b, 0, none⟩)] w fun e w' => e = .returned (.tuple #[]) ∧ LN b (blankR r) (x || !isB r) w' ∧ Tk b w w' := by
  have c0 := h.c0; have c1 := h.c1; have f0 := h.fz 0; have f1 := h.fz 1
  have hcp := Tryd.strings_CutPrefix ⟨r.toArray⟩ ⟨#[32]⟩ w
  cases x with
  | false =>
    go_enter Tryd.func84, Tryd.ntmps84
    go_wp2_with (go_at_call 45; refine hcp.mono ?_; rintro e w ⟨rfl, rfl⟩)
    go_end0
    exact ⟨rfl, (h.set0 (r' := Lib.trimPrefix r [32])).set1, ((Tk.refl _ _).set _ _).set _ _⟩
  | true =>
    go_enter Tryd.func84, Tryd.ntmps84
    go_wp2_with (go_at_call 45; refine hcp.mono ?_; rintro e w ⟨rfl, rfl⟩)
    go_end0
    exact ⟨rfl, (h.set0 (r' := Lib.trimPrefix r [32])).set1, ((Tk.refl _ _).set _ _).set _ _⟩
def tw (l : List UInt8) : List UInt8 := l.takeWhile (fun c => c != 32)
def dw (l : List UInt8) : List UInt8 := l.dropWhile (fun c => c != 32)
theorem tw_dw (l : List UInt8) : tw l ++ dw l = l := List.takeWhile_append_dropWhile
theorem index_cases : ∀ l : List UInt8, (Lib.indexByte l 32 = -1 ∧ tw l = l ∧ dw l = []) ∨ ∃ i : Nat, i < l.length ∧ Lib.indexByte l 32 = i ∧ tw l = l.take i ∧ dw l = l.drop i
  | [] => .inl ⟨rfl, rfl, rfl⟩
  | c :: l => by
    by_cases hc : c = 32
    · subst hc
      exact .inr ⟨0, by simp, by simp [Lib.indexByte], by simp [tw], by simp [dw]⟩
    · have h1 : (c == 32) = false := by simpa using hc
      have h2 : (c != 32) = true := by simpa using hc
      have e1 : tw (c :: l) = c :: tw l := by simp [tw, List.takeWhile_cons, h2]
      have e2 : dw (c :: l) = dw l := by simp [dw, List.dropWhile_cons, h2]
      rcases index_cases l with ⟨a, b, d⟩ | ⟨i, hi, a, b, d⟩
      · left
        refine ⟨?_, by rw [e1, b], by rw [e2, d]⟩
        simp [Lib.indexByte, h1, a]
      · right
        refine ⟨i + 1, by simp; omega, ?_, by rw [e1, b]; rfl, by rw [e2, d]; rfl⟩
        have : ¬ ((i : Int) == -1) = true := by simp
        simp [Lib.indexByte, h1, a]
theorem ext_take (l : List UInt8) (i : Nat) : (⟨l.toArray⟩ : ByteArray).extract 0 i = ⟨(l.take i).toArray⟩ := by
  apply ByteArray.ext; simp
theorem ext_drop (l : List UInt8) (i n : Nat) (hn : n = l.length) : (⟨l.toArray⟩ : ByteArray).extract i n = ⟨(l.drop i).toArray⟩ := by
  subst hn
  apply ByteArray.ext; simp
  exact List.take_of_length_le (by simp)
set_option maxHeartbeats 2000000 in
set_option maxRecDepth 100000 in
theorem word_any (b : Nat) (r : List UInt8) (x : Bool) (w : World) (h : LN b r x w) :
    Calls Tryd.prog 69 #[.pointer (some ⟨b, 0, none⟩)] w fun e w' => e = .returned (.string ⟨(tw (blankR r)).toArray⟩) ∧ LN b (dw (blankR r)) (x || !isB r) w' ∧ Tk b w w' := by
  have hbl := blank_any b r x w h
  obtain ⟨l, hl⟩ : ∃ l, l = blankR r := ⟨_, rfl⟩
  obtain ⟨y, hy⟩ : ∃ y, y = (x || !isB r) := ⟨_, rfl⟩
  rw [← hl, ← hy] at hbl ⊢
  clear hl hy
  rcases index_cases l with ⟨e1, e2, e3⟩ | ⟨i, hi, e1, e2, e3⟩
  · rw [e2, e3]
    go_enter Tryd.func69, Tryd.ntmps69
    go_wp2_with (first
      | (go_at_call 84; refine hbl.mono ?_; rintro e w1 ⟨rfl, h1, k1⟩; have c0 := h1.c0; have f0 := h1.fz 0)
      | (go_at_call 72; refine (Tryd.strings_IndexByte ⟨l.toArray⟩ 32 _).mono ?_; rintro e w1 ⟨rfl, rfl⟩; rw [show Lib.indexByte (⟨l.toArray⟩ : ByteArray).data.toList (32 : Int).toNat.toUInt8 = -1 from e1]))
    go_ret
    exact ⟨by rw [ext_take, List.take_length]; rfl, h1.set0 (r' := []), k1.set _ _⟩
  · rw [e2, e3]
    have i1 : (i : Int) ≤ (l.length : Int) := by omega
    have i2 : ¬ (i : Int) < 0 := by omega
    have hs := size_mk l
    go_enter Tryd.func69, Tryd.ntmps69
    go_wp2_with (first
      | (go_at_call 84; refine hbl.mono ?_; rintro e w1 ⟨rfl, h1, k1⟩; have c0 := h1.c0; have f0 := h1.fz 0)
      | (go_at_call 72; refine (Tryd.strings_IndexByte ⟨l.toArray⟩ 32 _).mono ?_; rintro e w1 ⟨rfl, rfl⟩; rw [show Lib.indexByte (⟨l.toArray⟩ : ByteArray).data.toList (32 : Int).toNat.toUInt8 = i from e1]))
    go_ret
    refine ⟨by rw [ext_take]; rfl, ?_, k1.set _ _⟩
    rw [ext_drop l i _ (by simp)]
    exact h1.set0
end Go.Proofs.YtgkmfhhoifbbbaaDoor
