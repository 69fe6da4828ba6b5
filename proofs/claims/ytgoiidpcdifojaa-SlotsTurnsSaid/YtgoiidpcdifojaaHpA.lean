/- boxes of digests; rows of bytes made of texts -/
import Derived.Test.YtgoiidpcdifojaaFlB
import Derived.Deep.MidRow
import Derived.Laws.IdiomStrings
namespace Go.Proofs.Ytgoiidpcdifojaa.Sm
open Go.RowKit
def DB (w : World) (g : Nat) (X : List UInt8) : Prop := X.length = 16 ∧ Bk w g 59 (Lib.byteCells X).toArray
theorem DB.new {w : World} {g : Nat} (hg : g = w.heap.size) {X : List UInt8} (h : X.length = 16) : DB (w.alloc (.cells (Lib.byteCells X).toArray 59)) g X := ⟨h, Bk.new hg _ _⟩
theorem DB.lt {w : World} {g : Nat} {X : List UInt8} (h : DB w g X) : g < w.heap.size := h.2.lt
theorem DB.ext {w w' : World} {g : Nat} {X : List UInt8} (h : DB w g X) (k : Ex w w') : DB w' g X := ⟨h.1, h.2.ext k⟩
theorem DB.under {w w' : World} {B g : Nat} {X : List UInt8} (h : DB w g X) (k : Below B w w') (hg : g < B) : DB w' g X := ⟨h.1, h.2.under k hg⟩
theorem DB.pt {w : World} {g : Nat} {X : List UInt8} (h : DB w g X) : (Pt.mk (some ⟨g, 0, none⟩) 16 X).In w w.heap.size := by
  have k := bk_pt h.2
  rw [h.1] at k; exact k
theorem cells16 {X : List UInt8} (h : X.length = 16) : (Lib.byteCells X).length = 16 := by simp [Lib.byteCells, h]
/-- a store lays one block anew -/
structure Only (g : Nat) (w w' : World) : Prop where
  below : ∀ B, B ≤ g → ∀ a, Below B a w → Below B a w'
  other : ∀ h, h ≠ g → w'.heap[h]? = w.heap[h]?
  size : w'.heap.size = w.heap.size
theorem Only.setCells (g : Nat) : ∀ (vs : List Value) (o : Nat) (w : World), Only g w (w.setCells g o vs)
  | [], _, _ => ⟨fun _ _ _ h => h, fun _ _ => rfl, rfl⟩
  | v :: r, o, w => by
    have h := Only.setCells g r (o + 1) (w.setCell ⟨g, o, none⟩ v)
    refine ⟨fun B hB a k => sm_below_setCells (v :: r) o w hB k, fun i hi => (h.other i hi).trans ?_, h.size.trans (by simp [World.setCell])⟩
    simp [World.setCell, Array.getElem?_modify, Ne.symm hi]
theorem Only.bk {g h : Nat} {w w' : World} {t : TypeId} {cs : Array Value} (k : Only g w w') (hb : Bk w h t cs) (hne : h ≠ g) : Bk w' h t cs := (k.other h hne).trans hb
theorem Only.db {g h : Nat} {w w' : World} {X : List UInt8} (k : Only g w w') (hb : DB w h X) (hne : h ≠ g) : DB w' h X := ⟨hb.1, k.bk hb.2 hne⟩
theorem wp_ld {o : Oper} {a : Act} {w : World} {K : Act → World → Prop} {Q : Exit → Act → World → Prop} (x : Operand) (g : Nat) (X : List UInt8) (ho : o.op = .load 59 x) (ha : a.eval x = .pointer (some ⟨g, 0, none⟩)) (h : DB w g X) (hk : K (a.put o.dst (digV X)) w) : o.wp Try.prog a w K Q := by
  obtain ⟨dd, hd⟩ : ∃ d, Try.prog.underlying 59 = some d ∧ d.isRow = true := ⟨_, Try.underlying59, rfl⟩
  exact wp_load_mid 59 x ho g 0 ha (Lib.byteCells X) dd h.2.range hd.1 hd.2 (by rw [sm_dsize, cells16 h.1]) hk
theorem wp_st {o : Oper} {a : Act} {w : World} {K : Act → World → Prop} {Q : Exit → Act → World → Prop} (x y : Operand) (g : Nat) (X : List UInt8) (ho : o.op = .store 59 x y) (ha : a.eval x = .pointer (some ⟨g, 0, none⟩)) (hy : a.eval y = digV X) (hX : X.length = 16)
    {Y : Array Value} (hB : Bk w g 59 Y) (hY : Y.size = 16) (hk : ∀ w', DB w' g X → Only g w w' → K (a.put o.dst undef) w') : o.wp Try.prog a w K Q := by
  have hs : (Lib.byteCells X).toArray.size = 16 := by simp [cells16 hX]
  refine wp_store_mid 59 x y ho g 0 (Lib.byteCells X).toArray ha hy (by rw [hs]; exact hB.there 16 hY) (by rw [sm_dsize, hs]) (bytes_one X) (hk _ ⟨hX, ?_⟩ ?_)
  · exact rowAll hB (by rw [hs, hY])
  · exact Only.setCells g _ 0 w
theorem wp_st0 {o : Oper} {a : Act} {w : World} {K : Act → World → Prop} {Q : Exit → Act → World → Prop} (x y : Operand) (g : Nat) (X Z : List UInt8) (ho : o.op = .store 59 x y) (ha : a.eval x = .pointer (some ⟨g, 0, none⟩)) (hy : a.eval y = digV X) (hX : X.length = 16)
    (hB : DB w g Z) (hk : ∀ w', DB w' g X → Only g w w' → K (a.put o.dst undef) w') : o.wp Try.prog a w K Q :=
  wp_st x y g X ho ha hy hX hB.2 (by simp [cells16 hB.1]) hk
theorem res_dig {fn : Func} {a : Tmp} (h : fn.results = #[.cell a 59]) (tmps : Array Value) (w : World) (g : Nat) (ha : tmps.getD a undef = .pointer (some ⟨g, 0, none⟩)) (X : List UInt8) (hB : DB w g X) : (results fn tmps).run Try.prog w = .ok (digV X) w := by
  obtain ⟨dd, hd⟩ : ∃ d, Try.prog.underlying 59 = some d ∧ d.isRow = true := ⟨_, Try.underlying59, rfl⟩
  exact sm_results_cell h tmps _ w g 0 ha (Lib.byteCells X) dd hB.2.range hd.1 hd.2 (by rw [sm_dsize, cells16 hB.1])
theorem res_dig2 {fn : Func} {a b : Tmp} (h : fn.results = #[.cell a 59, .tmp b]) (tmps : Array Value) (w : World) (g : Nat) (ha : tmps.getD a undef = .pointer (some ⟨g, 0, none⟩)) (X : List UInt8) (hB : DB w g X) : (results fn tmps).run Try.prog w = .ok (.tuple #[digV X, tmps.getD b undef]) w := by
  obtain ⟨dd, hd⟩ : ∃ d, Try.prog.underlying 59 = some d ∧ d.isRow = true := ⟨_, Try.underlying59, rfl⟩
  have ha' : tmps[a]?.getD undef = .pointer (some ⟨g, 0, none⟩) := by simpa using ha
  have hr := run_loadVar_mid (P := Try.prog) w g 0 59 (Lib.byteCells X) dd hB.2.range hd.1 hd.2 (by rw [sm_dsize, cells16 hB.1])
  simp [results, h, ha', asAddr, hr, Sem.run_bind]
  rfl
theorem zero_db {w : World} {g : Nat} (h : Bk w g 59 zero16) : DB w g (List.replicate 16 0) := ⟨rfl, h⟩
theorem at_any {P : Program} {ops : Array Oper} {rest : List Oper} {d : Option Tmp} {x : Op} {t2 : TypeId} {pos : String} {af : Array Edge} {g : Option (Nat × Bool)} {a : Act} {w : World} {Q : Exit → Act → World → Prop}
    (hw : Region.wanted { dst := d, op := x, type := t2, pos := pos, after := af, guard := g } (yielded ops a.tmps) = true)
    (k : ∀ K : Act → World → Prop, (∀ a w, wpList P ops Q rest a w → K a w) → Oper.wp P { dst := d, op := x, type := t2, pos := pos, after := af, guard := g } a w K Q) : wpList P ops Q ({ dst := d, op := x, type := t2, pos := pos, after := af, guard := g } :: rest) a w :=
  wpList_step fun K hK => by rw [if_pos hw]; exact k K hK
end Go.Proofs.Ytgoiidpcdifojaa.Sm
