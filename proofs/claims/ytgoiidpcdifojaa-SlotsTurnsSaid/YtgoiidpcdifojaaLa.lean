/- disks of chapter 7, as blocks -/
import Derived.Test.YtgoiidpcdifojaaHpA
import Derived.Test.YtgoiidpcdifojaaRoE
import Derived.Test.YtgoiidpcdifojaaFlH
import Derived.Lib.SliceRun
namespace Go.Proofs.Ytgoiidpcdifojaa
open Go.RowKit
def slC (l : List (Bool × Sm.Pt)) : List Value := l.flatMap fun x => [.bool x.1, x.2.V]
theorem slC_len (l : List (Bool × Sm.Pt)) : (slC l).length = 2 * l.length := by
  induction l with
  | nil => rfl
  | cons x r ih => unfold slC at *; rw [List.flatMap_cons, List.length_append, ih]; simp; omega
theorem slC_at : ∀ (l : List (Bool × Sm.Pt)) (i : Nat) (x : Bool × Sm.Pt), l[i]? = some x → (slC l)[2 * i]? = some (.bool x.1) ∧ (slC l)[2 * i + 1]? = some x.2.V
  | [], _, _, h => by simp at h
  | y :: r, 0, x, h => by
    obtain rfl : y = x := by simpa using h
    exact ⟨rfl, rfl⟩
  | y :: r, i + 1, x, h => by
    have h' : r[i]? = some x := by simpa using h
    have := slC_at r i x h'
    have e : slC (y :: r) = .bool y.1 :: y.2.V :: slC r := rfl
    rw [e, show 2 * (i + 1) = 2 * i + 1 + 1 by omega, List.getElem?_cons_succ, List.getElem?_cons_succ, List.getElem?_cons_succ, List.getElem?_cons_succ]
    exact this
theorem slC_set : ∀ (l : List (Bool × Sm.Pt)) (i : Nat) (x : Bool × Sm.Pt), i < l.length → slC (l.set i x) = (slC l).take (2 * i) ++ [.bool x.1, x.2.V] ++ (slC l).drop (2 * i + 2)
  | [], _, _, h => by simp at h
  | y :: r, 0, x, _ => rfl
  | y :: r, i + 1, x, h => by
    have := slC_set r i x (by simpa using h)
    have e : slC (y :: r) = .bool y.1 :: y.2.V :: slC r := rfl
    rw [List.set_cons_succ, e, show slC (y :: r.set i x) = .bool y.1 :: y.2.V :: slC (r.set i x) from rfl, this, show 2 * (i + 1) = 2 * i + 1 + 1 by omega, show 2 * i + 1 + 1 + 2 = (2 * i + 2) + 1 + 1 by omega]
    rfl
/-- a disk, as it lies there -/
structure Dk where
  now : List (Bool × Sm.Pt)
  las : List (Bool × Sm.Pt)
  pend : Int
  lst : Int
  put : Sm.Pt
def Dk.C (d : Dk) : Array Value := (slC d.now ++ slC d.las ++ [.int .i64 d.pend, .int .i64 d.lst, d.put.V]).toArray
structure Dk.At (d : Dk) (w : World) (g : Nat) : Prop where
  blk : Bk w g 72 d.C
  n10 : d.now.length = 10
  l10 : d.las.length = 10
  nin : ∀ (i : Nat) (x : Bool × Sm.Pt), d.now[i]? = some x → x.2.In w w.heap.size
  lin : ∀ (i : Nat) (x : Bool × Sm.Pt), d.las[i]? = some x → x.2.In w w.heap.size
  pin : d.put.In w w.heap.size
/-- what a disk has, as plain data -/
structure Dc where
  now : List (Bool × List UInt8)
  las : List (Bool × List UInt8)
  pend : Int
  lst : Int
  put : List UInt8
def ctL (l : List (Bool × Sm.Pt)) : List (Bool × List UInt8) := l.map fun x => (x.1, x.2.l)
def Dk.ct (d : Dk) : Dc := ⟨ctL d.now, ctL d.las, d.pend, d.lst, d.put.l⟩
def DK (w : World) (g : Nat) (c : Dc) : Prop := ∃ d : Dk, d.At w g ∧ d.ct = c
/-- of what there was one block alone is another -/
structure Md (g : Nat) (w w' : World) : Prop where
  below : ∀ B, B ≤ g → ∀ a, Below B a w → Below B a w'
  other : ∀ h, h ≠ g → h < w.heap.size → w'.heap[h]? = w.heap[h]?
  size : w.heap.size ≤ w'.heap.size
theorem Md.refl (g : Nat) (w : World) : Md g w w := ⟨fun _ _ _ h => h, fun _ _ _ => rfl, Nat.le_refl _⟩
theorem Md.trans {g : Nat} {a b c : World} (h : Md g a b) (k : Md g b c) : Md g a c :=
  ⟨fun B hB x hx => k.below B hB x (h.below B hB x hx), fun i hi hl => (k.other i hi (Nat.lt_of_lt_of_le hl h.size)).trans (h.other i hi hl), Nat.le_trans h.size k.size⟩
theorem Only.md {g : Nat} {w w' : World} (h : Only g w w') : Md g w w' := ⟨h.below, fun i hi _ => h.other i hi, by rw [h.size]; exact Nat.le_refl _⟩
theorem Ex.md {g : Nat} {w w' : World} (h : Ex w w') (hg : g ≤ w.heap.size) : Md g w w' :=
  ⟨fun B hB a ha => Below.trans ha (h.mono (Nat.le_trans hB hg)), fun i _ hl => h.block i hl, h.size⟩
theorem Dk.At.ext {d : Dk} {w w' : World} {g : Nat} (h : d.At w g) (k : Ex w w') : d.At w' g :=
  ⟨h.blk.ext k, h.n10, h.l10, fun i x hx => (h.nin i x hx).ext k, fun i x hx => (h.lin i x hx).ext k, h.pin.ext k⟩
theorem DK.ext {w w' : World} {g : Nat} {c : Dc} (h : DK w g c) (k : Ex w w') : DK w' g c := by
  obtain ⟨d, h1, h2⟩ := h; exact ⟨d, h1.ext k, h2⟩
theorem slC_no (l : List (Bool × Sm.Pt)) (v : Value) (h : v ∈ slC l) : ∀ n, v ≠ .int .u8 n := fun n e => by
  unfold slC at h
  rw [List.mem_flatMap] at h
  obtain ⟨x, _, hx⟩ := h
  simp at hx
  rcases hx with rfl | rfl
  · cases e
  · unfold Sm.Pt.V at e; cases e
theorem Dk.C_no (d : Dk) (v : Value) (i : Nat) (h : d.C[i]? = some v) : ∀ n, v ≠ .int .u8 n := fun n e => by
  unfold Dk.C at h
  rw [List.getElem?_toArray] at h
  have hm := List.mem_of_getElem? h
  rw [List.mem_append, List.mem_append] at hm
  rcases hm with (hm | hm) | hm
  · exact slC_no _ v hm n e
  · exact slC_no _ v hm n e
  · simp at hm
    rcases hm with rfl | rfl | rfl
    · cases e
    · cases e
    · unfold Sm.Pt.V at e; cases e
/-- bytes lie in no disk -/
theorem pt_far {p : Sm.Pt} {w : World} {g B : Nat} {d : Dk} (hp : p.In w B) (hb : Bk w g 72 d.C) (h0 : 0 < p.l.length) : ∃ a o, p.ad = some ⟨a, o, none⟩ ∧ a < B ∧ a ≠ g ∧ ∀ i, i < p.l.length → w.cell? ⟨a, o + i, none⟩ = some (.int .u8 (p.l.getD i 0).toNat) := by
  obtain ⟨a, o, e, ha, hc⟩ := hp.read h0
  refine ⟨a, o, e, ha, ?_, hc⟩
  rintro rfl
  have h1 := hc 0 h0
  rw [hb.cell] at h1
  exact d.C_no _ _ h1 _ rfl
theorem pt_md {p : Sm.Pt} {w w' : World} {g : Nat} {d : Dk} (hp : p.In w w.heap.size) (hb : Bk w g 72 d.C) (k : Md g w w') : p.In w' w'.heap.size := by
  refine ⟨hp.cap, hp.nil, fun h0 => ?_⟩
  obtain ⟨a, o, e, ha, hne, hc⟩ := pt_far hp hb h0
  refine ⟨a, o, e, Nat.lt_of_lt_of_le ha k.size, fun i hi => ?_⟩
  rw [← hc i hi]
  simp only [World.cell?, k.other a hne ha]
/-- another disk is as it was -/
theorem DK.md {w w' : World} {g g' : Nat} {c c' : Dc} (h : DK w g' c) (hg : DK w g c') (k : Md g w w') (hne : g' ≠ g) : DK w' g' c := by
  obtain ⟨d, h1, h2⟩ := h
  obtain ⟨d', h3, _⟩ := hg
  exact ⟨d, ⟨(k.other g' hne h1.blk.lt).trans h1.blk, h1.n10, h1.l10, fun i x hx => pt_md (h1.nin i x hx) h3.blk k, fun i x hx => pt_md (h1.lin i x hx) h3.blk k, pt_md h1.pin h3.blk k⟩, h2⟩
end Go.Proofs.Ytgoiidpcdifojaa
