/- blocks, rows of bytes, digests and IDs -/
import Derived.Test.YtgkmfhhoifbbbaaDoorFlG
import Derived.Test.YtgkmfhhoifbbbaaDoorChecked
import Derived.WalkKit
import Derived.WalkSpells
import Derived.WalkLawsBesides
import Derived.LoopTactic
import Derived.Lib.Hide
import Derived.ProofKit
import Derived.OwnWalk
import Derived.Laws.AppendOwnNone
import Derived.Maps.AppendAt
import Derived.Lib.AppendZeros
import Derived.Deep.MidRow
import Derived.Laws.OwnMore
import Derived.ArgAppend
import Derived.ChangeKeysEq
import Derived.Laws.StructEq
import Derived.Lib.LaidU8
import Derived.Laws.BytesArg
import Derived.Lib.SliceRun
import Derived.StillTailTactics
import Derived.Deep.QuietTactic
import Derived.BigQuiet
import Derived.RegionTactic
import Derived.ChangeAlike
namespace Go.Proofs.YtgkmfhhoifbbbaaDoor
open Go.RowKit
def Bk (w : World) (B : Nat) (t : TypeId) (cs : Array Value) : Prop := w.heap[B]? = some (.cells cs t (0, 0))
theorem Bk.put {w : World} {B : Nat} {t : TypeId} {cs : Array Value} (h : Bk w B t cs) (i : Nat) (v : Value) : Bk (w.setCell ⟨B, i, none⟩ v) B t (cs.setIfInBounds i v) := by
 unfold Bk at *; simp [World.setCell, Array.getElem?_modify, h]
theorem Bk.cell {w : World} {B : Nat} {t : TypeId} {cs : Array Value} (h : Bk w B t cs) (i : Nat) : w.cell? ⟨B, i, none⟩ = cs[i]? := by
 unfold Bk at h; simp [World.cell?, h]
theorem Bk.fr {w : World} {B : Nat} {t : TypeId} {cs : Array Value} (h : Bk w B t cs) (i : Nat) : w.frozen? ⟨B, i, none⟩ = false := by
 unfold Bk at h; simp [World.frozen?, h]
theorem Bk.there {w : World} {g : Nat} {t : TypeId} {cs : Array Value} (h : Bk w g t cs) (o n : Nat) (hn : o + n ≤ cs.size) : w.there g o n := by
 intro j hj
 refine ⟨?_, h.fr _⟩
 rw [h.cell]; simp; omega
theorem Bk.new {w : World} {g : Nat} (hg : g = w.heap.size) (t : TypeId) (cs : Array Value) : Bk (w.alloc (.cells cs t)) g t cs := by subst hg; exact heap_alloc_new w _
theorem Bk.lt {w : World} {g : Nat} {t : TypeId} {cs : Array Value} (h : Bk w g t cs) : g < w.heap.size := by
 rcases Nat.lt_or_ge g w.heap.size with hlt | hge
 ·exact hlt
 ·unfold Bk at h; rw [Array.getElem?_eq_none hge] at h; cases h
theorem Bk.more {w : World} {g : Nat} {t : TypeId} {cs : Array Value} (h : Bk w g t cs) (o : Obj) : Bk (w.alloc o) g t cs := (Below.heap_alloc w o g h.lt).trans h
theorem Bk.under {w w' : World} {B g : Nat} {t : TypeId} {cs : Array Value} (h : Bk w g t cs) (hb : Below B w w') (hg : g < B) : Bk w' g t cs := (hb.block g hg).trans h
theorem Bk.ext {w w' : World} {g : Nat} {t : TypeId} {cs : Array Value} (h : Bk w g t cs) (k : Ex w w') : Bk w' g t cs := h.under k h.lt
theorem Bk.far {w : World} {g b i : Nat} {v : Value} {t : TypeId} {cs : Array Value} (h : Bk w g t cs) (hb : g ≠ b) : Bk (w.setCell ⟨b, i, none⟩ v) g t cs := (Below.heap_setCell _ _ _ _ hb).trans h
theorem Bk.range {w : World} {g : Nat} {t : TypeId} {ds : List Value} (h : Bk w g t ds.toArray) : w.rangeAt g 0 ds := by
 intro j v hv
 rw [h.cell]
 simpa using hv
/-- a part of a block -/
theorem Bk.part {w : World} {g : Nat} {t : TypeId} {C : List Value} (h : Bk w g t C.toArray) (o : Nat) (ds : List Value) (hd : (C.drop o).take ds.length = ds) : w.rangeAt g o ds := by
 intro j v hv
 have hj : j < ds.length := (List.getElem?_eq_some_iff.1 hv).1
 rw [h.cell, List.getElem?_toArray]
 rw [← hd, List.getElem?_take, if_pos hj, List.getElem?_drop] at hv
 exact hv
theorem seg_set : ∀ (cs : List Value) (off : Nat) (C : List Value), off + cs.length ≤ C.length → ∀ (w : World) (g : Nat) (t : TypeId), Bk w g t C.toArray → Bk (w.setCells g off cs) g t (C.take off ++ cs ++ C.drop (off + cs.length)).toArray
 | [], off, C, _, w, g, t, h => by
  show Bk w g t _
  simpa using h
 | v :: r, off, C, hl, w, g, t, h => by
  have h1 := h.put off v
  have e1 : C.toArray.setIfInBounds off v = (C.set off v).toArray := by simp
  rw [e1] at h1
  have h2 := seg_set r (off + 1) (C.set off v) (by simp at hl ⊢; omega) (w.setCell ⟨g, off, none⟩ v) g t h1
  have hlt : off < C.length := by simp at hl; omega
  have e2 : (C.set off v).take (off + 1) ++ r ++ (C.set off v).drop (off + 1 + r.length) = C.take off ++ (v :: r) ++ C.drop (off + (v :: r).length) := by
   have a1 : (C.set off v).take (off + 1) = C.take off ++ [v] := by
    rw [List.take_succ_eq_append_getElem (by simpa using hlt)]
    simp [List.take_set_of_le]
   have a2 : (C.set off v).drop (off + 1 + r.length) = C.drop (off + (v :: r).length) := by
    rw [List.drop_set_of_lt (by omega), List.length_cons]; congr 1; omega
   rw [a1, a2]; simp
  rw [e2] at h2
  exact h2
theorem sm_below_setCells {B b : Nat} {a : World} : ∀ (vs : List Value) (o : Nat) (w : World), B ≤ b → Below B a w → Below B a (w.setCells b o vs)
 | [], _, _, _, h => h
 | v :: r, o, w, hb, h => sm_below_setCells r (o + 1) (w.setCell ⟨b, o, none⟩ v) hb (h.setCell (p := ⟨b, o, none⟩) hb v)
/-- a store lays one block anew -/
structure Only (g : Nat) (w w' : World) : Prop where
 below : ∀ B, B ≤ g → ∀ a, Below B a w → Below B a w'
 other : ∀ h, h ≠ g → w'.heap[h]? = w.heap[h]?
 size : w'.heap.size = w.heap.size
theorem Only.setCells (g : Nat) : ∀ (vs : List Value) (o : Nat) (w : World), Only g w (w.setCells g o vs)
 | [], _, _ => ⟨fun _ _ _ h => h, fun _ _ => rfl, rfl⟩
 | v :: r, o, w => by
  have h := Only.setCells g r (o + 1) (w.setCell ⟨g, o, none⟩ v)
  refine ⟨fun B hB a k => sm_below_setCells (v :: r) o w hB k, fun i hi => (h.other i hi).trans ?_, h.size.trans (by simp [World.setCell])⟩
  simp [World.setCell, Array.getElem?_modify, Ne.symm hi]
theorem Only.setCell (g o : Nat) (v : Value) (w : World) : Only g w (w.setCell ⟨g, o, none⟩ v) := Only.setCells g [v] o w
theorem Only.bk {g h : Nat} {w w' : World} {t : TypeId} {cs : Array Value} (k : Only g w w') (hb : Bk w h t cs) (hne : h ≠ g) : Bk w' h t cs := (k.other h hne).trans hb
/-- of what there was one block alone is another -/
structure Md (g : Nat) (w w' : World) : Prop where
 below : ∀ B, B ≤ g → ∀ a, Below B a w → Below B a w'
 other : ∀ h, h ≠ g → h < w.heap.size → w'.heap[h]? = w.heap[h]?
 size : w.heap.size ≤ w'.heap.size
theorem Md.refl (g : Nat) (w : World) : Md g w w := ⟨fun _ _ _ h => h, fun _ _ _ => rfl, Nat.le_refl _⟩
theorem Md.trans {g : Nat} {a b c : World} (h : Md g a b) (k : Md g b c) : Md g a c :=
 ⟨fun B hB x hx => k.below B hB x (h.below B hB x hx), fun i hi hl => (k.other i hi (Nat.lt_of_lt_of_le hl h.size)).trans (h.other i hi hl), Nat.le_trans h.size k.size⟩
theorem Only.md {g : Nat} {w w' : World} (h : Only g w w') : Md g w w' := ⟨h.below, fun i hi _ => h.other i hi, by rw [h.size]; exact Nat.le_refl _⟩
theorem Ex.md {g : Nat} {w w' : World} (h : Ex w w') (hg : g ≤ w.heap.size) : Md g w w' :=
 ⟨fun B hB a ha => Below.trans ha (h.mono (Nat.le_trans hB hg)), fun i _ hl => h.block i hl, h.size⟩
theorem Ex.alloc (w : World) (o : Obj) : Ex w (w.alloc o) := (Below.refl _ _).alloc (Nat.le_refl _) _
theorem Md.bk {g h : Nat} {w w' : World} {t : TypeId} {cs : Array Value} (k : Md g w w') (hb : Bk w h t cs) (hne : h ≠ g) : Bk w' h t cs := (k.other h hne hb.lt).trans hb
/-- a store into a block that came up later -/
theorem Md.ex {g : Nat} {w0 w w' : World} (h : Md g w w') (h0 : Ex w0 w) (hg : w0.heap.size ≤ g) : Ex w0 w' := h.below _ hg _ h0
structure Stop (p : Prop) : Prop where go : p
theorem at_any {P : Program} {ops : Array Oper} {rest : List Oper} {d : Option Tmp} {x : Op} {t2 : TypeId} {pos : String} {af : Array Edge} {g : Option (Nat × Bool)} {a : Act} {w : World} {Q : Exit → Act → World → Prop}
  (hw : Region.wanted { dst := d, op := x, type := t2, pos := pos, after := af, guard := g } (yielded ops a.tmps) = true)
  (k : ∀ K : Act → World → Prop, (∀ a w, wpList P ops Q rest a w → K a w) → Oper.wp P { dst := d, op := x, type := t2, pos := pos, after := af, guard := g } a w K Q) : wpList P ops Q ({ dst := d, op := x, type := t2, pos := pos, after := af, guard := g } :: rest) a w :=
 wpList_step fun K hK => by rw [if_pos hw]; exact k K hK
theorem at_not {P : Program} {ops : Array Oper} {rest : List Oper} {d : Option Tmp} {x : Op} {t2 : TypeId} {pos : String} {af : Array Edge} {g : Option (Nat × Bool)} {a : Act} {w : World} {Q : Exit → Act → World → Prop}
  (hw : Region.wanted { dst := d, op := x, type := t2, pos := pos, after := af, guard := g } (yielded ops a.tmps) = false)
  (k : wpList P ops Q rest (a.put d undef) w) : wpList P ops Q ({ dst := d, op := x, type := t2, pos := pos, after := af, guard := g } :: rest) a w :=
 wpList_step fun K hK => by rw [if_neg (by rw [hw]; simp)]; exact hK _ _ k
section
variable {P : Program} {ops : Array Oper} {rest : List Oper} {d : Option Tmp} {t2 : TypeId} {pos : String} {af : Array Edge} {g : Option (Nat × Bool)} {a : Act} {w : World} {Q : Exit → Act → World → Prop}
theorem stop_load {t : TypeId} {x : Operand} (k : Stop (wpList P ops Q ({ dst := d, op := .load t x, type := t2, pos := pos, after := af, guard := g } :: rest) a w)) : wpList P ops Q ({ dst := d, op := .load t x, type := t2, pos := pos, after := af, guard := g } :: rest) a w := k.go
theorem stop_store {t : TypeId} {x y : Operand} (k : Stop (wpList P ops Q ({ dst := d, op := .store t x y, type := t2, pos := pos, after := af, guard := g } :: rest) a w)) : wpList P ops Q ({ dst := d, op := .store t x y, type := t2, pos := pos, after := af, guard := g } :: rest) a w := k.go
theorem stop_eql {t t' : TypeId} {x y : Operand} (k : Stop (wpList P ops Q ({ dst := d, op := .binOp .eql t x y t', type := t2, pos := pos, after := af, guard := g } :: rest) a w)) : wpList P ops Q ({ dst := d, op := .binOp .eql t x y t', type := t2, pos := pos, after := af, guard := g } :: rest) a w := k.go
theorem stop_neq {t t' : TypeId} {x y : Operand} (k : Stop (wpList P ops Q ({ dst := d, op := .binOp .neq t x y t', type := t2, pos := pos, after := af, guard := g } :: rest) a w)) : wpList P ops Q ({ dst := d, op := .binOp .neq t x y t', type := t2, pos := pos, after := af, guard := g } :: rest) a w := k.go
def big : Op → Bool
 | .load t _ => [9999, 33, 9998, 29, 27].contains t
 | .store t _ _ => [9999, 33, 9998, 29, 27].contains t
 | _ => false
def beq : Op → Bool
 | .binOp .eql t _ _ _ => [29, 27].contains t
 | .binOp .neq t _ _ _ => [29, 27].contains t
 | _ => false
theorem stop_big {o : Oper} (h : big o.op = true) (k : Stop (wpList P ops Q (o :: rest) a w)) : wpList P ops Q (o :: rest) a w := k.go
theorem stop_beq {o : Oper} (h : beq o.op = true) (k : Stop (wpList P ops Q (o :: rest) a w)) : wpList P ops Q (o :: rest) a w := k.go
def bld : Op → Bool
 | .build _ _ => true
 | _ => false
theorem so0 {o : Oper} (h : (big o.op || bld o.op || beq o.op) = true) (k : Stop (wpList P ops Q (o :: rest) a w)) : wpList P ops Q (o :: rest) a w := k.go
theorem so1 {o : Oper} (h : (big o.op || bld o.op) = true) (k : Stop (wpList P ops Q (o :: rest) a w)) : wpList P ops Q (o :: rest) a w := k.go
def sx (S : List Nat) : Op → Bool
 | .load t _ => S.contains t
 | .store t _ _ => S.contains (1000 + t)
 | .binOp .eql t _ _ _ => S.contains (2000 + t) || S.contains 2000
 | .binOp .neq t _ _ _ => S.contains (3000 + t)
 | .build t _ => S.contains (4000 + t)
 | _ => false
theorem so2 (S : List Nat) {o : Oper} (h : (big o.op || bld o.op || beq o.op || sx S o.op) = true) (k : Stop (wpList P ops Q (o :: rest) a w)) : wpList P ops Q (o :: rest) a w := k.go
theorem so3 (S : List Nat) {o : Oper} (h : (big o.op || bld o.op || sx S o.op) = true) (k : Stop (wpList P ops Q (o :: rest) a w)) : wpList P ops Q (o :: rest) a w := k.go
theorem so4 (S : List Nat) {o : Oper} (h : sx S o.op = true) (k : Stop (wpList P ops Q (o :: rest) a w)) : wpList P ops Q (o :: rest) a w := k.go
theorem stop_build {t : TypeId} {fs : Array (Nat × Operand)} (k : Stop (wpList P ops Q ({ dst := d, op := .build t fs, type := t2, pos := pos, after := af, guard := g } :: rest) a w)) : wpList P ops Q ({ dst := d, op := .build t fs, type := t2, pos := pos, after := af, guard := g } :: rest) a w := k.go
end
/-! rows of bytes -/
theorem byteCells_app (a b : List UInt8) : Lib.byteCells (a ++ b) = Lib.byteCells a ++ Lib.byteCells b := by simp [Lib.byteCells]
theorem byteCells_len (l : List UInt8) : (Lib.byteCells l).length = l.length := by simp [Lib.byteCells]
theorem byteCells_get (l : List UInt8) (j : Nat) (h : j < l.length) : (Lib.byteCells l)[j]? = some (.int .u8 (l[j].toNat : Int)) := by simp [Lib.byteCells, h]
theorem byteCells_one {l : List UInt8} {v : Value} (h : v ∈ Lib.byteCells l) : v.oneCell' = true := by
 unfold Lib.byteCells at h
 simp at h
 obtain ⟨b, _, rfl⟩ := h
 rfl
theorem bytes_one (l : List UInt8) : (Lib.byteCells l).toArray.all (·.oneCell') = true := all_oneCell_toArray (fun _ hv => byteCells_one hv)
theorem sm_u8 : (Tryd.prog.info? 5).map (fun i => (i.zero, i.size, i.bytes)) = some (some (.int .u8 0), 1, 1) := by kernel_rfl
theorem sm_append {ops : Array Oper} {rest : List Oper} {o : Oper} {a : Act} {w : World} {Q : Exit → Act → World → Prop} (hgd : o.guard = none) (s x : Operand)
  (ho : o.op = .call { callee := .builtin .append, args := #[s, x], argTypes := #[30, 30] })
  (base : Nat) (v : Value) (n : Nat) (xs : List Value) (hs : a.eval s = v) (hown : w.ownsRow base 5 1 v n xs)
  (Ad : Option Addr) (m c : Nat) (news : List UInt8) (hx : a.eval x = .slice Ad m c) (hnil : Ad = none → c = 0) (hl : news.length = m)
  (hnews : 0 < m → ∃ ad, Ad = some ad ∧ ∀ j u, (Lib.byteCells news)[j]? = some u → w.cell? (ad.add j) = some u)
  (hbytes : n + m ≤ 140737488355328) (hbase : base ≤ w.heap.size)
  (h : ∀ v' w', w'.ownsRow base 5 1 v' (n + m) (xs ++ Lib.byteCells news) → w.grownBy w' v.ownBlock → wpList Tryd.prog ops Q rest (a.put o.dst v') w') : wpList Tryd.prog ops Q (o :: rest) a w := by
 obtain ⟨i0, hi0, hz0, hz1, hz2⟩ := info_parts sm_u8
 cases Ad with
 | none =>
  obtain rfl : c = 0 := hnil rfl
  have hm : m = 0 := by
   rcases Nat.eq_zero_or_pos m with h0 | h0
   ·exact h0
   ·obtain ⟨ad, h1, _⟩ := hnews h0; cases h1
  subst hm
  obtain rfl : news = [] := List.eq_nil_of_length_eq_zero hl
  refine wpList_append_own_none hgd s x _ ho base 5 i0 1 Tryd.underlying30 hi0 v n xs hs hown hx ?_
  exact h v w (by simpa [Lib.byteCells] using hown) (World.grownBy.refl w _)
 | some ad =>
  refine wpList_append_own _ hgd s x _ ho base 5 i0 _ 1 1 Tryd.underlying30 hi0 hz0 hz1 hz2 rfl (by omega) v n xs hs hown ad m c (Lib.byteCells news) hx (by simp [Lib.byteCells, hl]) ?_ ?_ (by unfold maxLen; omega) (by omega) hbase (fun v' w' h1 h2 _ => h v' w' h1 h2)
  ·intro j u hu
   have hj : 0 < m := by
    have := (List.getElem?_eq_some_iff.1 hu).1
    simp [Lib.byteCells, hl] at this; omega
   obtain ⟨ad', e, hc⟩ := hnews hj
   cases e
   exact hc j u hu
  ·intro u hu
   unfold Lib.byteCells at hu
   simp at hu
   obtain ⟨b, _, rfl⟩ := hu
   rfl
def ownU (w : World) (B : Nat) (v : Value) (l : List UInt8) : Prop := w.ownsRow B 5 1 v l.length (Lib.byteCells l)
/-- a row of bytes, as it is handed in -/
structure Pt where
 ad : Option Addr
 cap : Nat
 l : List UInt8
def Pt.V (p : Pt) : Value := .slice p.ad p.l.length p.cap
structure Pt.In (p : Pt) (w : World) (B : Nat) : Prop where
 cap : p.l.length ≤ p.cap
 nil : p.ad = none → p.cap = 0
 read : 0 < p.l.length → ∃ a o, p.ad = some ⟨a, o, none⟩ ∧ a < B ∧ ∀ i, i < p.l.length → w.cell? ⟨a, o + i, none⟩ = some (.int .u8 (p.l.getD i 0).toNat)
theorem Pt.In.keep {p : Pt} {w w' : World} {B : Nat} (h : p.In w B) (k : Below B w w') : p.In w' B :=
 ⟨h.cap, h.nil, fun h0 => by
  obtain ⟨a, o, e, hB, hc⟩ := h.read h0
  exact ⟨a, o, e, hB, fun i hi => (k.cell (p := ⟨a, _, none⟩) hB).trans (hc i hi)⟩⟩
theorem Pt.In.more {p : Pt} {w : World} {B B' : Nat} (h : p.In w B) (k : B ≤ B') : p.In w B' :=
 ⟨h.cap, h.nil, fun h0 => by
  obtain ⟨a, o, e, hB, hc⟩ := h.read h0
  exact ⟨a, o, e, by omega, hc⟩⟩
theorem Pt.In.ext {p : Pt} {w w' : World} (h : p.In w w.heap.size) (k : Ex w w') : p.In w' w'.heap.size := (h.keep k).more k.size
theorem Pt.In.cells {p : Pt} {w : World} {B : Nat} (h : p.In w B) : 0 < p.l.length → ∃ ad, p.ad = some ad ∧ ∀ j u, (Lib.byteCells p.l)[j]? = some u → w.cell? (ad.add j) = some u := by
 intro h0
 obtain ⟨a, o, e, _, hc⟩ := h.read h0
 refine ⟨_, e, fun j u hu => ?_⟩
 have hj : j < p.l.length := by have := (List.getElem?_eq_some_iff.1 hu).1; simpa [Lib.byteCells] using this
 rw [Addr.add_mid, hc j hj, ← hu]
 simp [Lib.byteCells, hj]
def nilB : Pt := ⟨none, 0, []⟩
theorem nilB_in (w : World) (B : Nat) : nilB.In w B := ⟨Nat.le_refl _, fun _ => rfl, fun h => absurd h (Nat.lt_irrefl 0)⟩
theorem own_pt {w : World} {B : Nat} {v : Value} {l : List UInt8} (h : ownU w B v l) : ∃ p : Pt, v = p.V ∧ p.l = l ∧ p.In w w.heap.size ∧ v.ownBlock = p.V.ownBlock := by
 have h' := h
 obtain ⟨h1, h2 | ⟨g, cap, cur, rfl, hb, hh, hc, hm, hs, ht⟩⟩ := h
 ·refine ⟨⟨none, 0, l⟩, ?_, rfl, ⟨?_, fun _ => rfl, ?_⟩, ?_⟩
  ·unfold Pt.V; simp only; rw [h2.2]; exact h2.1
  ·simp only; rw [h2.2]; exact Nat.le_refl 0
  ·intro h0; simp only at h0; omega
  ·unfold Pt.V; rw [h2.1]; rfl
 ·refine ⟨⟨some ⟨g, 0, none⟩, cap, l⟩, rfl, rfl, ⟨hc, (fun h => by cases h), fun _ => ⟨g, 0, rfl, (h'.lt g rfl).2, fun i hi => ?_⟩⟩, rfl⟩
  simp only at hi
  have h3 := World.ownsRow.cellAt h' i (by omega)
  rw [Nat.zero_add, h3]
  simp [Lib.byteCells, hi]
theorem bk_pt {w : World} {g : Nat} {t : TypeId} {l : List UInt8} (h : Bk w g t (Lib.byteCells l).toArray) : (Pt.mk (some ⟨g, 0, none⟩) l.length l).In w w.heap.size :=
 ⟨Nat.le_refl _, (fun h => by cases h), fun _ => ⟨g, 0, rfl, h.lt, fun i hi => by rw [h.cell, Nat.zero_add]; simp [Lib.byteCells]; simp at hi; simp [hi]⟩⟩
theorem Pt.In.only {p : Pt} {w w' : World} {g B : Nat} (h : p.In w B) (ho : Only g w w') (hf : ∀ a, p.ad = some a → a.block ≠ g) : p.In w' B :=
 ⟨h.cap, h.nil, fun h0 => by
  obtain ⟨a, o, e, hB, hc⟩ := h.read h0
  refine ⟨a, o, e, hB, fun i hi => ?_⟩
  rw [← hc i hi]
  simp only [World.cell?, ho.other a (hf _ e)]⟩
/-- bytes in memory that came up behind B -/
def PN (w : World) (B : Nat) (p : Pt) : Prop := p.In w w.heap.size ∧ ∀ a, p.ad = some a → B ≤ a.block ∧ ∃ cs, Bk w a.block 5 cs
theorem PN.ext {w w' : World} {B : Nat} {p : Pt} (h : PN w B p) (k : Ex w w') : PN w' B p := ⟨h.1.ext k, fun a e => ⟨(h.2 a e).1, (h.2 a e).2.elim fun cs hc => ⟨cs, hc.ext k⟩⟩⟩
theorem PN.less {w : World} {B B' : Nat} {p : Pt} (h : PN w B p) (k : B' ≤ B) : PN w B' p := ⟨h.1, fun a e => ⟨Nat.le_trans k (h.2 a e).1, (h.2 a e).2⟩⟩
theorem Bk.ty {w : World} {g : Nat} {t t' : TypeId} {cs cs' : Array Value} (h : Bk w g t cs) (k : Bk w g t' cs') : t = t' := by
 unfold Bk at h k; rw [h] at k; injection k with k; injection k
theorem PN.ne {w : World} {B g : Nat} {p : Pt} (h : PN w B p) {t : TypeId} {cs : Array Value} (hb : Bk w g t cs) (ht : t ≠ 5) : ∀ a, p.ad = some a → a.block ≠ g := fun a e hg => by
 obtain ⟨_, cs', hc⟩ := h.2 a e
 rw [hg] at hc
 exact ht (hb.ty hc)
theorem PN.only' {w w' : World} {B g : Nat} {p : Pt} (h : PN w B p) (ho : Only g w w') (hg : ∀ a, p.ad = some a → a.block ≠ g) : PN w' B p :=
 ⟨by rw [ho.size]; exact h.1.only ho hg, fun a e => ⟨(h.2 a e).1, (h.2 a e).2.elim fun cs hc => ⟨cs, ho.bk hc (hg a e)⟩⟩⟩
theorem PN.only {w w' : World} {B g : Nat} {p : Pt} (h : PN w B p) (ho : Only g w w') (hg : g < B) : PN w' B p := h.only' ho (fun a e => by have := (h.2 a e).1; omega)
theorem PN.onlyT {w w' : World} {B g : Nat} {p : Pt} (h : PN w B p) (ho : Only g w w') {t : TypeId} {cs : Array Value} (hb : Bk w g t cs) (ht : t ≠ 5) : PN w' B p := h.only' ho (h.ne hb ht)
theorem nilB_pn (w : World) (B : Nat) : PN w B nilB := ⟨nilB_in _ _, fun a e => by cases e⟩
theorem own_pn {w : World} {B : Nat} {v : Value} {l : List UInt8} (h : ownU w B v l) : ∃ p : Pt, v = p.V ∧ p.l = l ∧ PN w B p := by
 obtain ⟨p, h1, h2, h3, h4⟩ := own_pt h
 refine ⟨p, h1, h2, h3, fun a e => ?_⟩
 have hb : v.ownBlock = some a.block := by rw [h4]; unfold Pt.V; rw [e]; rfl
 refine ⟨(World.ownsRow.lt h a.block hb).1, ?_⟩
 obtain ⟨_, k | ⟨g, cap, cur, rfl, _, hh, _⟩⟩ := h
 ·rw [k.1] at hb; cases hb
 ·obtain rfl : g = a.block := by simpa [Value.ownBlock] using hb
  exact ⟨_, hh⟩
def CPost (l : List UInt8) (w : World) (e : Ending) (w' : World) : Prop := ∃ p : Pt, e = .returned p.V ∧ p.l = l ∧ PN w' w.heap.size p ∧ Ex w w'
def PtPost (l : List UInt8) (w : World) (e : Ending) (w' : World) : Prop := ∃ p : Pt, e = .returned p.V ∧ p.l = l ∧ p.In w' w'.heap.size ∧ Ex w w'
def strL (l : List UInt8) : ByteArray := ⟨l.toArray⟩
theorem map_back (l : List UInt8) : List.map ((fun n : Int => UInt8.ofNat n.toNat) ∘ fun b : UInt8 => (b.toNat : Int)) l = l := by
 induction l with
 | nil => rfl
 | cons x m ih => simp only [List.map_cons, ih]; simp
set_option maxRecDepth 100000 in
theorem pt_conv (p : Pt) (w : World) {B : Nat} (h : p.In w B) : (convert 30 9 (.slice p.ad p.l.length p.cap)).run Tryd.prog w = .ok (.string (strL p.l)) w := by
 by_cases h0 : 0 < p.l.length
 ·obtain ⟨a, o, e, _, hc⟩ := h.read h0
  have hx := run_convert_bytes_arg (P := Tryd.prog) w 30 5 Tryd.underlying30 Tryd.underlying5 a o p.l.length p.cap (p.l.map fun b => (b.toNat : Int)) (by simp) (fun i hi => by rw [hc i hi]; simp [List.getD, hi]) 9 Tryd.underlying9
  rw [e, hx]
  congr 2
  unfold strOfNums strL
  congr 1
  simp
  exact map_back p.l
 ·have hl : p.l = [] := List.eq_nil_of_length_eq_zero (by omega)
  rw [hl]
  rw [run_convert_bytes_string w 30 9 5 _ _ _ Tryd.underlying30 Tryd.underlying5 Tryd.underlying9]
  cases p.ad <;> simp [Conv.bytesToString, loadCells]
  all_goals rfl
theorem strL_beq (l m : List UInt8) : ((strL l).toList == (strL m).toList) = decide (l = m) := by
 rw [ByteArray.toList_eq, ByteArray.toList_eq]
 show (l == m) = _
 by_cases h : l = m
 ·subst h; simp
 ·rw [decide_eq_false h]; exact beq_eq_false_iff_ne.2 h
/-! digests and IDs -/
def digV (l : List UInt8) : Value := .agg (Lib.byteCells l).toArray
theorem len16 {l : List UInt8} (h : l.length = 16) : ∃ a b c d e f g i j k m n o p q r, l = [a, b, c, d, e, f, g, i, j, k, m, n, o, p, q, r] := by
 match l, h with
 | [a, b, c, d, e, f, g, i, j, k, m, n, o, p, q, r], _ => exact ⟨a, b, c, d, e, f, g, i, j, k, m, n, o, p, q, r, rfl⟩
theorem len4 {l : List UInt8} (h : l.length = 4) : ∃ a b c d, l = [a, b, c, d] := by
 match l, h with
 | [a, b, c, d], _ => exact ⟨a, b, c, d, rfl⟩
theorem eqItems_bytes (P : Program) (w : World) (d : Nat) {e : TypeId} (he : P.plainKey e = true) (hu : P.underlying e = some (.int .u8)) (l m : List UInt8) (hlm : l.length = m.length) :
  ∀ k, k ≤ l.length → (Op.eqItems (d + 1) e 1 (Lib.byteCells l).toArray (Lib.byteCells m).toArray (List.range' (l.length - k) k)).run P w = .ok (decide (l.drop (l.length - k) = m.drop (l.length - k))) w := by
 intro k
 induction k with
 | zero =>
  intro _
  simp [Op.eqItems, List.drop_of_length_le, hlm]
 | succ k ih =>
  intro hk
  have h1 : l.length - (k + 1) < l.length := by omega
  have h2 : l.length - (k + 1) < m.length := by omega
  have h3 : l.length - (k + 1) + 1 = l.length - k := by omega
  rw [List.range'_succ, h3]
  simp only [Op.eqItems, Sem.run_bind, Nat.mul_one]
  rw [run_part_plain w he (v := .int .u8 (l[l.length - (k + 1)].toNat : Int)) (by simpa using byteCells_get l _ h1)]
  simp only [Result.andThen_ok]
  rw [run_part_plain w he (v := .int .u8 (m[l.length - (k + 1)].toNat : Int)) (by simpa using byteCells_get m _ h2)]
  simp only [Result.andThen_ok]
  rw [run_equalIn_int w d e .u8 .u8 _ _ hu]
  simp only [Result.andThen_ok]
  have e1 : l.drop (l.length - (k + 1)) = l[l.length - (k + 1)] :: l.drop (l.length - k) := by rw [List.drop_eq_getElem_cons h1, h3]
  have e2 : m.drop (l.length - (k + 1)) = m[l.length - (k + 1)] :: m.drop (l.length - k) := by rw [List.drop_eq_getElem_cons h2, h3]
  rw [e1, e2]
  by_cases hb : l[l.length - (k + 1)] = m[l.length - (k + 1)]
  ·rw [hb]
   simp only [BEq.rfl, Bool.not_true, Bool.false_eq_true, if_false]
   rw [ih (by omega)]
   simp
  ·have : ((l[l.length - (k + 1)].toNat : Int) == (m[l.length - (k + 1)].toNat : Int)) = false := by
    simp only [beq_eq_false_iff_ne, ne_eq]
    intro h
    exact hb (UInt8.toNat_inj.1 (by omega))
   rw [this]
   simp [hb]
theorem Tryd.u8plain : Tryd.prog.plainKey 5 = true := by kernel_rfl
theorem Tryd.cells5 : Tryd.prog.cellsOf 5 = 1 := by kernel_rfl
theorem info_u8 : ∃ i, Tryd.prog.info? 5 = some i := by
 have h := Tryd.cells5
 unfold Program.cellsOf at h
 cases hq : Tryd.prog.info? 5 with
 | none => simp [hq] at h
 | some i => exact ⟨i, rfl⟩
theorem eq_digest (w : World) (d : Nat) (l m : List UInt8) (hl : l.length = 16) (hm : m.length = 16) :
  (Op.equalIn (d + 2) 29 (digV l) (digV m)).run Tryd.prog w = .ok (decide (l = m)) w := by
 obtain ⟨i, hi⟩ := info_u8
 unfold digV
 rw [run_equalIn_array w (d + 1) _ _ Tryd.underlying29 hi, Tryd.cells5]
 have := eqItems_bytes Tryd.prog w d Tryd.u8plain Tryd.underlying5 l m (by omega) 16 (by omega)
 rw [hl] at this
 simpa [List.range_eq_range'] using this
theorem eq_id (w : World) (d : Nat) (l m : List UInt8) (hl : l.length = 4) (hm : m.length = 4) :
  (Op.equalIn (d + 2) 27 (digV l) (digV m)).run Tryd.prog w = .ok (decide (l = m)) w := by
 obtain ⟨i, hi⟩ := info_u8
 unfold digV
 rw [run_equalIn_array w (d + 1) _ _ Tryd.underlying27 hi, Tryd.cells5]
 have := eqItems_bytes Tryd.prog w d Tryd.u8plain Tryd.underlying5 l m (by omega) 4 (by omega)
 rw [hl] at this
 simpa [List.range_eq_range'] using this
theorem Tryd.guardDig : Tryd.prog.eqGuardType Tryd.prog.depth 29 = false := by kernel_rfl
theorem Tryd.guardId : Tryd.prog.eqGuardType Tryd.prog.depth 27 = false := by kernel_rfl
section
variable {o : Oper} {a : Act} {w : World} {K : Act → World → Prop} {Q : Exit → Act → World → Prop}
theorem wp_eql_dig (t' : TypeId) (x y : Operand) (ho : o.op = .binOp .eql 29 x y t')
  (l m : List UInt8) (hl : l.length = 16) (hm : m.length = 16) (hx : a.eval x = digV l) (hy : a.eval y = digV m) (h : K (a.put o.dst (.bool (decide (l = m)))) w) : o.wp Tryd.prog a w K Q := by
 have heq := eq_digest w 9998 l m hl hm
 unfold Oper.wp execOp
 simp only [ho, hx, hy]
 unfold digV at heq ⊢
 simp [run_eqGuard_agg, run_eql_struct, Tryd.guardDig, heq, Sem.run_bind, Result.andThen, Oper.upon]
 exact h
theorem wp_neq_dig (t' : TypeId) (x y : Operand) (ho : o.op = .binOp .neq 29 x y t')
  (l m : List UInt8) (hl : l.length = 16) (hm : m.length = 16) (hx : a.eval x = digV l) (hy : a.eval y = digV m) (h : K (a.put o.dst (.bool (!decide (l = m)))) w) : o.wp Tryd.prog a w K Q := by
 have heq := eq_digest w 9998 l m hl hm
 unfold Oper.wp execOp
 simp only [ho, hx, hy]
 unfold digV at heq ⊢
 simp [run_eqGuard_agg, run_neq_struct, Tryd.guardDig, heq, Sem.run_bind, Result.andThen, Oper.upon]
 simpa using h
theorem wp_eql_id (t' : TypeId) (x y : Operand) (ho : o.op = .binOp .eql 27 x y t')
  (l m : List UInt8) (hl : l.length = 4) (hm : m.length = 4) (hx : a.eval x = digV l) (hy : a.eval y = digV m) (h : K (a.put o.dst (.bool (decide (l = m)))) w) : o.wp Tryd.prog a w K Q := by
 have heq := eq_id w 9998 l m hl hm
 unfold Oper.wp execOp
 simp only [ho, hx, hy]
 unfold digV at heq ⊢
 simp [run_eqGuard_agg, run_eql_struct, Tryd.guardId, heq, Sem.run_bind, Result.andThen, Oper.upon]
 exact h
theorem wp_neq_id (t' : TypeId) (x y : Operand) (ho : o.op = .binOp .neq 27 x y t')
  (l m : List UInt8) (hl : l.length = 4) (hm : m.length = 4) (hx : a.eval x = digV l) (hy : a.eval y = digV m) (h : K (a.put o.dst (.bool (!decide (l = m)))) w) : o.wp Tryd.prog a w K Q := by
 have heq := eq_id w 9998 l m hl hm
 unfold Oper.wp execOp
 simp only [ho, hx, hy]
 unfold digV at heq ⊢
 simp [run_eqGuard_agg, run_neq_struct, Tryd.guardId, heq, Sem.run_bind, Result.andThen, Oper.upon]
 simpa using h
/-- a part of a block is loaded -/
theorem wp_ldp {t ty : TypeId} {C : List Value} (ds : List Value) (x : Operand) (g off : Nat) (dd : TypeDesc) (ho : o.op = .load ty x) (ha : a.eval x = .pointer (some ⟨g, off, none⟩)) (h : Bk w g t C.toArray) (hd : (C.drop off).take ds.length = ds)
  (hu : Tryd.prog.underlying ty = some dd) (hr : dd.isRow = true) (hs : (Tryd.prog.info? ty).map (·.size) = some ds.length) (hk : K (a.put o.dst (.agg ds.toArray)) w) : o.wp Tryd.prog a w K Q :=
 wp_load_mid ty x ho g off ha ds dd (h.part off ds hd) hu hr hs hk
/-- a part of a block is stored -/
theorem wp_stp {t ty : TypeId} {C : List Value} (ds : List Value) (x y : Operand) (g off : Nat) (ho : o.op = .store ty x y) (ha : a.eval x = .pointer (some ⟨g, off, none⟩)) (hy : a.eval y = .agg ds.toArray) (h : Bk w g t C.toArray) (hl : off + ds.length ≤ C.length)
  (hs : (Tryd.prog.info? ty).map (·.size) = some ds.length) (h1 : ds.toArray.all (·.oneCell') = true) (hk : ∀ w', Bk w' g t (C.take off ++ ds ++ C.drop (off + ds.length)).toArray → Only g w w' → K (a.put o.dst undef) w') : o.wp Tryd.prog a w K Q :=
 wp_store_mid ty x y ho g off ds.toArray ha hy (h.there off _ (by simpa using hl)) (by simpa using hs) h1 (hk _ (seg_set ds off C hl w g t h) (Only.setCells g ds off w))
end
end Go.Proofs.YtgkmfhhoifbbbaaDoor
