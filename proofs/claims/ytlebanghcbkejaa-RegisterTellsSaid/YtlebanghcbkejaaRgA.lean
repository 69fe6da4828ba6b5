/- blocks of registers and of digests; their loads and stores -/
import Derived.Test.YtlebanghcbkejaaR3
namespace Go.Proofs.Ytlebanghcbkejaa
open Go.RowKit
def Ex (w w' : World) : Prop := Below w.heap.size w w'
theorem Ex.refl (w : World) : Ex w w := Below.refl _ _
theorem Ex.trans {a b c : World} (h : Ex a b) (k : Ex b c) : Ex a c := Below.trans h (k.mono h.size)
/-- block B is known whole -/
def Bk (w : World) (B : Nat) (t : TypeId) (cs : Array Value) : Prop := w.heap[B]? = some (.cells cs t (0, 0))
theorem Bk.put {w : World} {B : Nat} {t : TypeId} {cs : Array Value} (h : Bk w B t cs) (i : Nat) (v : Value) : Bk (w.setCell ⟨B, i, none⟩ v) B t (cs.setIfInBounds i v) := by
  unfold Bk at *; simp [World.setCell, Array.getElem?_modify, h]
theorem Bk.cell {w : World} {B : Nat} {t : TypeId} {cs : Array Value} (h : Bk w B t cs) (i : Nat) : w.cell? ⟨B, i, none⟩ = cs[i]? := by
  unfold Bk at h; simp [World.cell?, h]
theorem Bk.fr {w : World} {B : Nat} {t : TypeId} {cs : Array Value} (h : Bk w B t cs) (i : Nat) : w.frozen? ⟨B, i, none⟩ = false := by
  unfold Bk at h; simp [World.frozen?, h]
theorem Bk.there {w : World} {g : Nat} {t : TypeId} {cs : Array Value} (h : Bk w g t cs) (o n : Nat) (hn : o + n ≤ cs.size) : w.there g o n := by
  intro j hj
  refine ⟨?_, h.fr _⟩
  rw [h.cell]; simp; omega
theorem Bk.new {w : World} {g : Nat} (hg : g = w.heap.size) (t : TypeId) (cs : Array Value) : Bk (w.alloc (.cells cs t)) g t cs := by subst hg; exact heap_alloc_new w _
theorem Bk.lt {w : World} {g : Nat} {t : TypeId} {cs : Array Value} (h : Bk w g t cs) : g < w.heap.size := by
  rcases Nat.lt_or_ge g w.heap.size with hlt | hge
  · exact hlt
  · unfold Bk at h; rw [Array.getElem?_eq_none hge] at h; cases h
theorem Bk.more {w : World} {g : Nat} {t : TypeId} {cs : Array Value} (h : Bk w g t cs) (o : Obj) : Bk (w.alloc o) g t cs := (Below.heap_alloc w o g h.lt).trans h
theorem Bk.under {w w' : World} {B g : Nat} {t : TypeId} {cs : Array Value} (h : Bk w g t cs) (hb : Below B w w') (hg : g < B) : Bk w' g t cs := (hb.block g hg).trans h
theorem Bk.ext {w w' : World} {g : Nat} {t : TypeId} {cs : Array Value} (h : Bk w g t cs) (k : Ex w w') : Bk w' g t cs := h.under k h.lt
theorem Bk.range {w : World} {g : Nat} {t : TypeId} {ds : List Value} (h : Bk w g t ds.toArray) : w.rangeAt g 0 ds := by
  intro j v hv
  rw [h.cell]
  simpa using hv
theorem Bk.setCells {g : Nat} {t : TypeId} : ∀ (vs : List Value) (o : Nat) (w : World) (cs : Array Value), Bk w g t cs → ∃ cs', Bk (w.setCells g o vs) g t cs' ∧ cs'.size = cs.size
  | [], _, _, cs, h => ⟨cs, h, rfl⟩
  | v :: r, o, w, cs, h => by
    obtain ⟨c2, h1, h2⟩ := Bk.setCells r (o + 1) _ _ (h.put o v)
    exact ⟨c2, h1, by simpa using h2⟩
theorem rowAll {w : World} {g : Nat} {t : TypeId} {cs ds : Array Value} (h : Bk w g t cs) (hs : ds.size = cs.size) : Bk (w.setCells g 0 ds.toList) g t ds := by
  obtain ⟨c2, h1, h2⟩ := Bk.setCells ds.toList 0 w cs h
  have hr := World.rangeAt_setCells_same w g 0 ds.toList (by rw [Array.length_toList]; exact h.there 0 _ (by omega))
  have e : c2 = ds := by
    apply Array.ext (by omega)
    intro i a b
    have h3 := hr i ds[i] (by simp)
    rw [Nat.zero_add, h1.cell] at h3
    simpa [a] using h3
  rw [e] at h1; exact h1
/-- a store lays one block anew -/
structure Only (g : Nat) (w w' : World) : Prop where
  below : ∀ B, B ≤ g → ∀ a, Below B a w → Below B a w'
  other : ∀ h, h ≠ g → w'.heap[h]? = w.heap[h]?
  size : w'.heap.size = w.heap.size
theorem Only.setCells (g : Nat) : ∀ (vs : List Value) (o : Nat) (w : World), Only g w (w.setCells g o vs)
  | [], _, _ => ⟨fun _ _ _ h => h, fun _ _ => rfl, rfl⟩
  | v :: r, o, w => by
    have h := Only.setCells g r (o + 1) (w.setCell ⟨g, o, none⟩ v)
    refine ⟨fun B hB a k => below_setCells (v :: r) o w hB k, fun i hi => (h.other i hi).trans ?_, h.size.trans (by simp [World.setCell])⟩
    simp [World.setCell, Array.getElem?_modify, Ne.symm hi]
theorem Only.bk {g h : Nat} {w w' : World} {t : TypeId} {cs : Array Value} (k : Only g w w') (hb : Bk w h t cs) (hne : h ≠ g) : Bk w' h t cs := (k.other h hne).trans hb
def DB (w : World) (g : Nat) (X : List UInt8) : Prop := X.length = 16 ∧ Bk w g 25 (Lib.byteCells X).toArray
theorem DB.ext {w w' : World} {g : Nat} {X : List UInt8} (h : DB w g X) (k : Ex w w') : DB w' g X := ⟨h.1, h.2.ext k⟩
theorem Only.db {g h : Nat} {w w' : World} {X : List UInt8} (k : Only g w w') (hb : DB w h X) (hne : h ≠ g) : DB w' h X := ⟨hb.1, k.bk hb.2 hne⟩
theorem cells16 {X : List UInt8} (h : X.length = 16) : (Lib.byteCells X).length = 16 := by simp [Lib.byteCells, h]
/-- block g holds the register r -/
def RB (w : World) (g : Nat) (r : Rg) : Prop := r.l.length = 16 ∧ Bk w g 27 r.C.toArray
theorem RB.ext {w w' : World} {g : Nat} {r : Rg} (h : RB w g r) (k : Ex w w') : RB w' g r := ⟨h.1, h.2.ext k⟩
theorem RB.lt {w : World} {g : Nat} {r : Rg} (h : RB w g r) : g < w.heap.size := h.2.lt
theorem Only.rb {g h : Nat} {w w' : World} {r : Rg} (k : Only g w w') (hb : RB w h r) (hne : h ≠ g) : RB w' h r := ⟨hb.1, k.bk hb.2 hne⟩
theorem len16 {l : List UInt8} (h : l.length = 16) : ∃ a b c d e f g i j k m n o p q r, l = [a, b, c, d, e, f, g, i, j, k, m, n, o, p, q, r] := by
  match l, h with
  | [a, b, c, d, e, f, g, i, j, k, m, n, o, p, q, r], _ => exact ⟨a, b, c, d, e, f, g, i, j, k, m, n, o, p, q, r, rfl⟩
theorem RB.put1 {w : World} {g : Nat} {r : Rg} (h : RB w g r) (x : Int) : RB (w.setCell ⟨g, 1, none⟩ (.int .u64 x)) g ⟨r.b, x, r.a, r.l, r.p⟩ := ⟨h.1, by have k := h.2.put 1 (.int .u64 x); simpa [Rg.C] using k⟩
theorem RB.put2 {w : World} {g : Nat} {r : Rg} (h : RB w g r) (x : Int) : RB (w.setCell ⟨g, 2, none⟩ (.int .u64 x)) g ⟨r.b, r.c, x, r.l, r.p⟩ := ⟨h.1, by have k := h.2.put 2 (.int .u64 x); simpa [Rg.C] using k⟩
theorem RB.put0 {w : World} {g : Nat} {r : Rg} (h : RB w g r) (x : Int) : RB (w.setCell ⟨g, 0, none⟩ (.int .u64 x)) g ⟨x, r.c, r.a, r.l, r.p⟩ := ⟨h.1, by have k := h.2.put 0 (.int .u64 x); simpa [Rg.C] using k⟩
theorem RB.put19 {w : World} {g : Nat} {r : Rg} (h : RB w g r) (x : Int) : RB (w.setCell ⟨g, 19, none⟩ (.int .i64 x)) g ⟨r.b, r.c, r.a, r.l, x⟩ := ⟨h.1, by
  have k := h.2.put 19 (.int .i64 x)
  obtain ⟨b, c, a, l, p⟩ := r
  obtain ⟨a0, b0, c0, d0, e0, f0, g0, i0, j0, k0, m0, n0, o0, p0, q0, r0, rfl⟩ := len16 h.1
  exact k⟩
set_option maxHeartbeats 1000000 in
theorem RB.putH {w : World} {g : Nat} {r : Rg} (h : RB w g r) {H : List UInt8} (hH : H.length = 16) : RB (w.setCells g 3 (Lib.byteCells H)) g ⟨r.b, r.c, r.a, H, r.p⟩ := ⟨hH, by
  obtain ⟨h1, h2⟩ := h
  obtain ⟨b, c, a, l, p⟩ := r
  obtain ⟨a0, b0, c0, d0, e0, f0, g0, i0, j0, k0, m0, n0, o0, p0, q0, r0, rfl⟩ := len16 h1
  obtain ⟨a1, b1, c1, d1, e1, f1, g1, i1, j1, k1, m1, n1, o1, p1, q1, r1, rfl⟩ := len16 hH
  have k := ((((((((((((((((h2.put 3 (.int .u8 a1.toNat)).put 4 (.int .u8 b1.toNat)).put 5 (.int .u8 c1.toNat)).put 6 (.int .u8 d1.toNat)).put 7 (.int .u8 e1.toNat)).put 8 (.int .u8 f1.toNat)).put 9 (.int .u8 g1.toNat)).put 10 (.int .u8 i1.toNat)).put 11 (.int .u8 j1.toNat)).put 12 (.int .u8 k1.toNat)).put 13 (.int .u8 m1.toNat)).put 14 (.int .u8 n1.toNat)).put 15 (.int .u8 o1.toNat)).put 16 (.int .u8 p1.toNat)).put 17 (.int .u8 q1.toNat)).put 18 (.int .u8 r1.toNat))
  simpa [World.setCells, Rg.C, Lib.byteCells] using k⟩
section
variable {o : Oper} {a : Act} {w : World} {K : Act → World → Prop} {Q : Exit → Act → World → Prop}
theorem wp_ldr (x : Operand) (g : Nat) (r : Rg) (ho : o.op = .load 27 x) (ha : a.eval x = .pointer (some ⟨g, 0, none⟩)) (h : RB w g r) (hk : K (a.put o.dst r.V) w) : o.wp Try.prog a w K Q := by
  obtain ⟨dd, hd⟩ : ∃ d, Try.prog.underlying 27 = some d ∧ d.isRow = true := ⟨_, Try.underlying27, rfl⟩
  exact wp_load_mid 27 x ho g 0 ha r.C dd h.2.range hd.1 hd.2 (by rw [Try.size27, r.len h.1]) hk
theorem wp_ldh (x : Operand) (g : Nat) (X : List UInt8) (ho : o.op = .load 25 x) (ha : a.eval x = .pointer (some ⟨g, 0, none⟩)) (h : DB w g X) (hk : K (a.put o.dst (digV X)) w) : o.wp Try.prog a w K Q := by
  obtain ⟨dd, hd⟩ : ∃ d, Try.prog.underlying 25 = some d ∧ d.isRow = true := ⟨_, Try.underlying25, rfl⟩
  exact wp_load_mid 25 x ho g 0 ha (Lib.byteCells X) dd h.2.range hd.1 hd.2 (by rw [Try.size25, cells16 h.1]) hk
/-- the head of a register -/
theorem wp_ldrh (x : Operand) (g : Nat) (r : Rg) (ho : o.op = .load 25 x) (ha : a.eval x = .pointer (some ⟨g, 3, none⟩)) (h : RB w g r) (hk : K (a.put o.dst (digV r.l)) w) : o.wp Try.prog a w K Q := by
  obtain ⟨dd, hd⟩ : ∃ d, Try.prog.underlying 25 = some d ∧ d.isRow = true := ⟨_, Try.underlying25, rfl⟩
  refine wp_load_mid 25 x ho g 3 ha (Lib.byteCells r.l) dd ?_ hd.1 hd.2 (by rw [Try.size25, cells16 h.1]) hk
  intro j v hv
  have hj : j < 16 := by
    have := (List.getElem?_eq_some_iff.1 hv).1
    rw [byteCells_len, h.1] at this; exact this
  rw [h.2.cell]
  have := r.atH h.1 j hj
  simp [this]; exact hv
theorem wp_str (x y : Operand) (g : Nat) (r : Rg) (ho : o.op = .store 27 x y) (ha : a.eval x = .pointer (some ⟨g, 0, none⟩)) (hy : a.eval y = r.V) (hr : r.l.length = 16)
    {Y : Array Value} (hB : Bk w g 27 Y) (hY : Y.size = 20) (hk : ∀ w', RB w' g r → Only g w w' → K (a.put o.dst undef) w') : o.wp Try.prog a w K Q := by
  have hs : r.C.toArray.size = 20 := by simp [r.len hr]
  refine wp_store_mid 27 x y ho g 0 r.C.toArray ha hy (hB.there 0 _ (by omega)) (by rw [Try.size27, hs]) r.ones (hk _ ⟨hr, ?_⟩ ?_)
  · exact rowAll hB (by rw [hs, hY])
  · exact Only.setCells g _ 0 w
theorem wp_strh (x y : Operand) (g : Nat) (r : Rg) (H : List UInt8) (ho : o.op = .store 25 x y) (ha : a.eval x = .pointer (some ⟨g, 3, none⟩)) (hy : a.eval y = digV H) (hH : H.length = 16)
    (h : RB w g r) (hk : ∀ w', RB w' g ⟨r.b, r.c, r.a, H, r.p⟩ → Only g w w' → K (a.put o.dst undef) w') : o.wp Try.prog a w K Q := by
  have hs : (Lib.byteCells H).toArray.size = 16 := by simp [cells16 hH]
  have ones : (Lib.byteCells H).toArray.all (·.oneCell') = true := all_oneCell_toArray (by
    intro v hv
    unfold Lib.byteCells at hv
    simp at hv
    obtain ⟨b, _, rfl⟩ := hv
    rfl)
  refine wp_store_mid 25 x y ho g 3 (Lib.byteCells H).toArray ha hy (h.2.there 3 _ (by rw [hs]; simp [r.len h.1])) (by rw [Try.size25, hs]) ones (hk _ ?_ ?_)
  · exact h.putH hH
  · exact Only.setCells g _ 3 w
end
theorem Bk.far {w : World} {g b i : Nat} {v : Value} {t : TypeId} {cs : Array Value} (h : Bk w g t cs) (hb : g ≠ b) : Bk (w.setCell ⟨b, i, none⟩ v) g t cs := (Below.heap_setCell _ _ _ _ hb).trans h
theorem RB.far {w : World} {g b i : Nat} {v : Value} {r : Rg} (h : RB w g r) (hb : g ≠ b) : RB (w.setCell ⟨b, i, none⟩ v) g r := ⟨h.1, h.2.far hb⟩
theorem DB.far {w : World} {g b i : Nat} {v : Value} {X : List UInt8} (h : DB w g X) (hb : g ≠ b) : DB (w.setCell ⟨b, i, none⟩ v) g X := ⟨h.1, h.2.far hb⟩
structure Stop (p : Prop) : Prop where go : p
theorem at_any {P : Program} {ops : Array Oper} {rest : List Oper} {d : Option Tmp} {x : Op} {t2 : TypeId} {pos : String} {af : Array Edge} {g : Option (Nat × Bool)} {a : Act} {w : World} {Q : Exit → Act → World → Prop}
    (hw : Region.wanted { dst := d, op := x, type := t2, pos := pos, after := af, guard := g } (yielded ops a.tmps) = true)
    (k : ∀ K : Act → World → Prop, (∀ a w, wpList P ops Q rest a w → K a w) → Oper.wp P { dst := d, op := x, type := t2, pos := pos, after := af, guard := g } a w K Q) : wpList P ops Q ({ dst := d, op := x, type := t2, pos := pos, after := af, guard := g } :: rest) a w :=
  wpList_step fun K hK => by rw [if_pos hw]; exact k K hK
theorem stop_load25 {P : Program} {ops : Array Oper} {rest : List Oper} {d : Option Tmp} {x : Operand} {t2 : TypeId} {pos : String} {af : Array Edge} {g : Option (Nat × Bool)} {a : Act} {w : World} {Q : Exit → Act → World → Prop}
    (k : Stop (wpList P ops Q ({ dst := d, op := .load 25 x, type := t2, pos := pos, after := af, guard := g } :: rest) a w)) : wpList P ops Q ({ dst := d, op := .load 25 x, type := t2, pos := pos, after := af, guard := g } :: rest) a w := k.go
theorem stop_store25 {P : Program} {ops : Array Oper} {rest : List Oper} {d : Option Tmp} {x y : Operand} {t2 : TypeId} {pos : String} {af : Array Edge} {g : Option (Nat × Bool)} {a : Act} {w : World} {Q : Exit → Act → World → Prop}
    (k : Stop (wpList P ops Q ({ dst := d, op := .store 25 x y, type := t2, pos := pos, after := af, guard := g } :: rest) a w)) : wpList P ops Q ({ dst := d, op := .store 25 x y, type := t2, pos := pos, after := af, guard := g } :: rest) a w := k.go
theorem stop_load27 {P : Program} {ops : Array Oper} {rest : List Oper} {d : Option Tmp} {x : Operand} {t2 : TypeId} {pos : String} {af : Array Edge} {g : Option (Nat × Bool)} {a : Act} {w : World} {Q : Exit → Act → World → Prop}
    (k : Stop (wpList P ops Q ({ dst := d, op := .load 27 x, type := t2, pos := pos, after := af, guard := g } :: rest) a w)) : wpList P ops Q ({ dst := d, op := .load 27 x, type := t2, pos := pos, after := af, guard := g } :: rest) a w := k.go
theorem stop_store27 {P : Program} {ops : Array Oper} {rest : List Oper} {d : Option Tmp} {x y : Operand} {t2 : TypeId} {pos : String} {af : Array Edge} {g : Option (Nat × Bool)} {a : Act} {w : World} {Q : Exit → Act → World → Prop}
    (k : Stop (wpList P ops Q ({ dst := d, op := .store 27 x y, type := t2, pos := pos, after := af, guard := g } :: rest) a w)) : wpList P ops Q ({ dst := d, op := .store 27 x y, type := t2, pos := pos, after := af, guard := g } :: rest) a w := k.go
theorem res_reg {fn : Func} {a u : Tmp} (h : fn.results = #[.cell a 27, .tmp u]) (tmps : Array Value) (w : World) (g : Nat) (ha : tmps.getD a undef = .pointer (some ⟨g, 0, none⟩)) (r : Rg) (hB : RB w g r) :
    (results fn tmps).run Try.prog w = .ok (.tuple #[r.V, tmps.getD u undef]) w := by
  obtain ⟨dd, hd⟩ : ∃ d, Try.prog.underlying 27 = some d ∧ d.isRow = true := ⟨_, Try.underlying27, rfl⟩
  exact results_cell_tmp h tmps _ w g 0 ha r.C dd hB.2.range hd.1 hd.2 (by rw [Try.size27, r.len hB.1])
theorem Rg.right_yes {r : Rg} (h1 : r.b ≤ 1099511627776) (h2 : r.c ≤ 1099511627776) (h3 : r.a ≤ r.c) (h4 : r.c - r.a ≤ 8) (h5 : r.p = 0 ∨ r.p = 1) (h6 : 0 < r.c ∨ r.l = zeroL) : r.right = true := by
  unfold Rg.right
  simp only [h1, h2, h3, h4, decide_true, Bool.true_and, Bool.and_eq_true, Bool.or_eq_true, decide_eq_true_eq]
  exact ⟨h5, h6⟩
theorem Rg.right_over {r : Rg} (h : 8 < r.c - r.a) : r.right = false := by
  unfold Rg.right
  have h4 : decide (r.c - r.a ≤ 8) = false := by simp; omega
  rw [h4]; simp
end Go.Proofs.Ytlebanghcbkejaa
