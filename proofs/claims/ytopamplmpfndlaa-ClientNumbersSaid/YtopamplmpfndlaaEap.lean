/- MHpA -/
import Derived.Test.YtopamplmpfndlaaEak
import Derived.Laws.IdiomStrings
set_option maxRecDepth 100000
set_option maxHeartbeats 16000000
namespace Go.Proofs.Ytopamplmpfndlaa.Sm
open Go.RowKit
def DB (w : World) (g : Nat) (X : List UInt8) : Prop := X.length = 16 ∧ Bk w g 36 (Lib.byteCells X).toArray
theorem DB.new {w : World} {g : Nat} (hg : g = w.heap.size) {X : List UInt8} (h : X.length = 16) : DB (w.alloc (.cells (Lib.byteCells X).toArray 36)) g X := ⟨h, Bk.new hg _ _⟩
theorem DB.lt {w : World} {g : Nat} {X : List UInt8} (h : DB w g X) : g < w.heap.size := h.2.lt
theorem DB.ext {w w' : World} {g : Nat} {X : List UInt8} (h : DB w g X) (k : Ex w w') : DB w' g X := ⟨h.1, h.2.ext k⟩
theorem DB.under {w w' : World} {B g : Nat} {X : List UInt8} (h : DB w g X) (k : Below B w w') (hg : g < B) : DB w' g X := ⟨h.1, h.2.under k hg⟩
theorem DB.pt {w : World} {g : Nat} {X : List UInt8} (h : DB w g X) : (Pt.mk (some ⟨g, 0, none⟩) 16 X).In w w.heap.size := by
 have k := bk_pt h.2
 rw [h.1] at k; exact k
theorem cells16 {X : List UInt8} (h : X.length = 16) : (Lib.byteCells X).length = 16 := by simp [Lib.byteCells, h]
structure Only (g : Nat) (w w' : World) : Prop where
 below : ∀ B, B ≤ g → ∀ a, Below B a w → Below B a w'
 other : ∀ h, h ≠ g → w'.heap[h]? = w.heap[h]?
 size : w'.heap.size = w.heap.size
theorem Only.setCells (g : Nat) : ∀ (vs : List Value) (o : Nat) (w : World), Only g w (w.setCells g o vs)
 | [], _, _ => ⟨fun _ _ _ h => h, fun _ _ => rfl, rfl⟩
 | v :: r, o, w => by
  have h := Only.setCells g r (o + 1) (w.setCell ⟨g, o, none⟩ v)
  refine ⟨fun B hB a k => sm_below_setCells (v :: r) o w hB k, fun i hi => (h.other i hi).trans ?_, h.size.trans (by simp [World.setCell])⟩
  simp [World.setCell, Array.getElem?_modify, Ne.symm hi]
theorem Only.bk {g h : Nat} {w w' : World} {t : TypeId} {cs : Array Value} (k : Only g w w') (hb : Bk w h t cs) (hne : h ≠ g) : Bk w' h t cs := (k.other h hne).trans hb
theorem Only.db {g h : Nat} {w w' : World} {X : List UInt8} (k : Only g w w') (hb : DB w h X) (hne : h ≠ g) : DB w' h X := ⟨hb.1, k.bk hb.2 hne⟩
theorem wp_ld {o : Oper} {a : Act} {w : World} {K : Act → World → Prop} {Q : Exit → Act → World → Prop} (x : Operand) (g : Nat) (X : List UInt8) (ho : o.op = .load 36 x) (ha : a.eval x = .pointer (some ⟨g, 0, none⟩)) (h : DB w g X) (hk : K (a.put o.dst (digV X)) w) : o.wp Try.prog a w K Q := by
 obtain ⟨dd, hd⟩ : ∃ d, Try.prog.underlying 36 = some d ∧ d.isRow = true := ⟨_, Try.underlying36, rfl⟩
 exact wp_load_mid 36 x ho g 0 ha (Lib.byteCells X) dd h.2.range hd.1 hd.2 (by rw [sm_dsize, cells16 h.1]) hk
theorem wp_st {o : Oper} {a : Act} {w : World} {K : Act → World → Prop} {Q : Exit → Act → World → Prop} (x y : Operand) (g : Nat) (X : List UInt8) (ho : o.op = .store 36 x y) (ha : a.eval x = .pointer (some ⟨g, 0, none⟩)) (hy : a.eval y = digV X) (hX : X.length = 16)
  {Y : Array Value} (hB : Bk w g 36 Y) (hY : Y.size = 16) (hk : ∀ w', DB w' g X → Only g w w' → K (a.put o.dst undef) w') : o.wp Try.prog a w K Q := by
 have hs : (Lib.byteCells X).toArray.size = 16 := by simp [cells16 hX]
 refine wp_store_mid 36 x y ho g 0 (Lib.byteCells X).toArray ha hy (by rw [hs]; exact hB.there 16 hY) (by rw [sm_dsize, hs]) (bytes_one X) (hk _ ⟨hX, ?_⟩ ?_)
 ·exact rowAll hB (by rw [hs, hY])
 exact Only.setCells g _ 0 w
theorem wp_st0 {o : Oper} {a : Act} {w : World} {K : Act → World → Prop} {Q : Exit → Act → World → Prop} (x y : Operand) (g : Nat) (X Z : List UInt8) (ho : o.op = .store 36 x y) (ha : a.eval x = .pointer (some ⟨g, 0, none⟩)) (hy : a.eval y = digV X) (hX : X.length = 16)
  (hB : DB w g Z) (hk : ∀ w', DB w' g X → Only g w w' → K (a.put o.dst undef) w') : o.wp Try.prog a w K Q :=
 wp_st x y g X ho ha hy hX hB.2 (by simp [cells16 hB.1]) hk
theorem res_dig {fn : Func} {a : Tmp} (h : fn.results = #[.cell a 36]) (tmps : Array Value) (w : World) (g : Nat) (ha : tmps.getD a undef = .pointer (some ⟨g, 0, none⟩)) (X : List UInt8) (hB : DB w g X) : (results fn tmps).run Try.prog w = .ok (digV X) w := by
 obtain ⟨dd, hd⟩ : ∃ d, Try.prog.underlying 36 = some d ∧ d.isRow = true := ⟨_, Try.underlying36, rfl⟩
 exact sm_results_cell h tmps _ w g 0 ha (Lib.byteCells X) dd hB.2.range hd.1 hd.2 (by rw [sm_dsize, cells16 hB.1])
theorem res_dig2 {fn : Func} {a b : Tmp} (h : fn.results = #[.cell a 36, .tmp b]) (tmps : Array Value) (w : World) (g : Nat) (ha : tmps.getD a undef = .pointer (some ⟨g, 0, none⟩)) (X : List UInt8) (hB : DB w g X) : (results fn tmps).run Try.prog w = .ok (.tuple #[digV X, tmps.getD b undef]) w := by
 obtain ⟨dd, hd⟩ : ∃ d, Try.prog.underlying 36 = some d ∧ d.isRow = true := ⟨_, Try.underlying36, rfl⟩
 have ha' : tmps[a]?.getD undef = .pointer (some ⟨g, 0, none⟩) := by simpa using ha
 have hr := run_loadVar_mid (P := Try.prog) w g 0 36 (Lib.byteCells X) dd hB.2.range hd.1 hd.2 (by rw [sm_dsize, cells16 hB.1])
 simp [results, h, ha', asAddr, hr, Sem.run_bind]
 rfl
theorem str_run (s : ByteArray) (w : World) : ∃ (p : Pt) (w' : World), (convert 9 23 (.string s)).run Try.prog w = .ok p.V w' ∧ p.l = s.data.toList ∧ p.In w' w'.heap.size ∧ Ex w w' := by
 have h := run_bytes_of_string (P := Try.prog) w 9 23 5 s Try.underlying9 Try.underlying23 Try.underlying5
 have hge := grownCap_ge w s.size 0 5
 generalize grownCap w s.size 0 5 = c at h hge
 have hl : s.data.toList.length = s.size := by rw [Array.length_toList]; rfl
 have hv : (Pt.mk (some ⟨w.heap.size, 0, none⟩) c s.data.toList).V = .slice (some ⟨w.heap.size, 0, none⟩) s.size c := by unfold Pt.V; rw [hl]
 refine ⟨⟨some ⟨w.heap.size, 0, none⟩, c, s.data.toList⟩, w.drew.alloc (.cells (bytesRow s c) 5 ((bytesRow s c).size, (bytesRow s c).size + 1)), ?_, rfl, ⟨by simp only [hl]; exact hge, (fun h => by cases h), fun _ => ⟨w.heap.size, 0, rfl, ?_, fun i hi => ?_⟩⟩, ?_⟩
 ·rw [h, hv]
 ·simp
 ·simp only [hl] at hi
  have hi' : i < s.data.size := hi
  have hb := bytesRow_at s c i hi'
  rw [Nat.zero_add]
  have hn := heap_alloc_new w.drew (.cells (bytesRow s c) 5 ((bytesRow s c).size, (bytesRow s c).size + 1))
  have hn : (w.drew.alloc (.cells (bytesRow s c) 5 ((bytesRow s c).size, (bytesRow s c).size + 1))).heap[w.heap.size]? = some (.cells (bytesRow s c) 5 ((bytesRow s c).size, (bytesRow s c).size + 1)) := hn
  unfold World.cell?
  simp only [hn, hb]
  simp [List.getD]
  rw [Array.getElem?_eq_getElem hi']
  rfl
 exact (Below.refl _ _).drew.alloc (Nat.le_refl _) _
theorem wp_cvs {o : Oper} {a : Act} {w : World} {K : Act → World → Prop} {Q : Exit → Act → World → Prop} (x : Operand) (s : ByteArray) (ho : o.op = .convert 9 23 x) (ha : a.eval x = .string s) (hk : ∀ (p : Pt) w', p.l = s.data.toList → p.In w' w'.heap.size → Ex w w' → K (a.put o.dst p.V) w') : o.wp Try.prog a w K Q := by
 obtain ⟨p, w', h, hl, hi, hx⟩ := str_run s w
 unfold Oper.wp execOp
 simp only [ho, ha, Sem.run_bind, h]
 exact hk p w' hl hi hx
theorem at_any {P : Program} {ops : Array Oper} {rest : List Oper} {d : Option Tmp} {x : Op} {t2 : TypeId} {pos : String} {af : Array Edge} {g : Option (Nat × Bool)} {a : Act} {w : World} {Q : Exit → Act → World → Prop}
  (hw : Region.wanted { dst := d, op := x, type := t2, pos := pos, after := af, guard := g } (yielded ops a.tmps) = true)
  (k : ∀ K : Act → World → Prop, (∀ a w, wpList P ops Q rest a w → K a w) → Oper.wp P { dst := d, op := x, type := t2, pos := pos, after := af, guard := g } a w K Q) : wpList P ops Q ({ dst := d, op := x, type := t2, pos := pos, after := af, guard := g } :: rest) a w :=
 wpList_step fun K hK => by rw [if_pos hw]; exact k K hK
end Go.Proofs.Ytopamplmpfndlaa.Sm
