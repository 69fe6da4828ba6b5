/- maps keyed by IDs whose elements are numbers -/
import Derived.Test.YtmjfnpmnhehnkaaUl
import Derived.WideKeyPair
import Derived.WideKeyElems
import Derived.ChangeMaps3
import Derived.Test.YtmjfnpmnhehnkaaUn
namespace Go.Proofs.Ytmjfnpmnhehnkaa
section
open Go.RowKit Go.ChangeShapes Go.WideShapes Go.WideMaps Go.MapKept
open Go.ChangeMaps (setBlock heap_setBlock_same heap_setBlock_other)
theorem Try.arrId : ArrKey Try.prog 32 5 4 := ⟨Try.underlying32, by kernel_rfl, by kernel_rfl, by kernel_rfl⟩
theorem Try.tysz : ∃ m, Try.prog.types.size = m + 1 := ⟨Try.prog.types.size - 1, by
  have h : decide (0 < Try.prog.types.size) = true := by kernel_rfl
  have := of_decide_eq_true h
  omega⟩
theorem lawId : KeyLaw Try.prog 32 := ArrKey.law Try.arrId
theorem wf_u8 (a : UInt8) : (Lit.int .u8 (a.toNat : Int)).wf = true := by
  have := a.toNat_lt
  simp [Lit.wf, IntKind.min, IntKind.max, IntKind.signed, IntKind.bits]
  omega
theorem key4 {id : List UInt8} (h : id.length = 4) : ∃ l, keyOf Try.prog 32 (digV id) = some l := by
  obtain ⟨a, b, c, d, rfl⟩ := len4 h
  have hkt := ArrKey.keyType Try.arrId Try.tysz
  obtain ⟨m, hm⟩ := Try.tysz
  refine ⟨.string (keyBytes [.int .u8 (a.toNat : Int), .int .u8 (b.toNat : Int), .int .u8 (c.toNat : Int), .int .u8 (d.toNat : Int)]), ?_⟩
  show keyOf Try.prog 32 (.agg #[.int .u8 (a.toNat : Int), .int .u8 (b.toNat : Int), .int .u8 (c.toNat : Int), .int .u8 (d.toNat : Int)]) = _
  unfold keyOf
  simp only [Try.arrId.hu]
  rw [if_pos (by simp [hkt, Value.formed, Try.arrId.hu, Try.arrId.size]), hm]
  unfold Program.keyLits
  simp only [Try.arrId.hu, Value.cells]
  rw [if_pos (by rw [Try.arrId.size]; rfl), show List.range 4 = [0, 1, 2, 3] from rfl, List.mapM_cons, List.mapM_cons, List.mapM_cons, List.mapM_cons, List.mapM_nil]
  simp [Try.arrId.one, Program.keyLits, Try.underlying5, wf_u8]
theorem digV_inj {x y : List UInt8} (h : digV x = digV y) : x = y := by
  have h1 : Lib.byteCells x = Lib.byteCells y := by
    have := Value.agg.inj h
    simpa using this
  unfold Lib.byteCells at h1
  refine (List.map_inj_right (fun a b e => ?_)).1 h1
  have : (a.toNat : Int) = b.toNat := by injection e
  exact UInt8.toNat_inj.1 (by omega)
theorem zeroI (w : World) : (zeroValue 3).run Try.prog w = .ok (.int .i64 0) w := by kernel_rfl
def updK (f : List UInt8 → Int) (id : List UInt8) (z : Int) : List UInt8 → Int := fun i => if i = id then z else f i
theorem updK_same (f : List UInt8 → Int) (id : List UInt8) (z : Int) : updK f id z id = z := if_pos rfl
theorem updK_ne (f : List UInt8 → Int) {id i : List UInt8} (z : Int) (h : i ≠ id) : updK f id z i = f i := if_neg h
/-- a map's entries: f -/
structure ME (es : Array MapEntry) (clock : Nat) (f : List UInt8 → Int) : Prop where
  keys : ∀ e ∈ es.toList, ∃ id : List UInt8, id.length = 4 ∧ e.key = digV id ∧ e.val = .int .i64 (f id)
  nod : (es.toList.map (·.key)).Nodup
  none : ∀ id, (∀ e ∈ es.toList, e.key ≠ digV id) → f id = 0
  born : (es.toList.map (·.born)).Nodup
  lt : ∀ e ∈ es.toList, e.born < clock
theorem ME.zero : ME #[] 0 (fun _ => 0) := ⟨fun e h => by simp at h, by simp, fun _ _ => rfl, by simp, fun e h => by simp at h⟩
theorem ME.law {es : Array MapEntry} {clock : Nat} {f : List UInt8 → Int} (h : ME es clock f) : ∀ e ∈ es.toList, ∃ l, keyOf Try.prog 32 e.key = some l := fun e he => by
  obtain ⟨id, h1, h2, _⟩ := h.keys e he
  rw [h2]; exact key4 h1
theorem ME.push {es : Array MapEntry} {clock : Nat} {f : List UInt8 → Int} (h : ME es clock f) {id : List UInt8} (hid : id.length = 4) (hno : ∀ e ∈ es.toList, e.key ≠ digV id) (z : Int) : ME (es.push ⟨digV id, .int .i64 z, clock⟩) (clock + 1) (updK f id z) := by
  refine ⟨fun e he => ?_, ?_, fun i hi => ?_, ?_, fun e he => ?_⟩
  · rw [Array.toList_push, List.mem_append, List.mem_singleton] at he
    rcases he with he | rfl
    · obtain ⟨i, h1, h2, h3⟩ := h.keys e he
      refine ⟨i, h1, h2, ?_⟩
      rw [updK_ne f z (fun e2 => hno e he (by rw [h2, e2]))]; exact h3
    · exact ⟨id, hid, rfl, by rw [updK_same]⟩
  · rw [Array.toList_push, List.map_append, List.nodup_append]
    refine ⟨h.nod, by simp, fun a ha c hc => ?_⟩
    obtain ⟨p, hp, rfl⟩ := List.mem_map.1 ha
    have : c = digV id := by simpa using hc
    rw [this]; exact hno p hp
  · have h1 : i ≠ id := fun e => hi ⟨digV id, .int .i64 z, clock⟩ (by simp) (by rw [e])
    rw [updK_ne f z h1]
    exact h.none i fun e he => hi e (by simp [he])
  · rw [Array.toList_push, List.map_append, List.nodup_append]
    refine ⟨h.born, by simp, fun a ha c hc => ?_⟩
    obtain ⟨p, hp, rfl⟩ := List.mem_map.1 ha
    have : c = clock := by simpa using hc
    have := h.lt p hp
    omega
  · rw [Array.toList_push, List.mem_append, List.mem_singleton] at he
    rcases he with he | rfl
    · exact Nat.lt_succ_of_lt (h.lt e he)
    · exact Nat.lt_succ_self _
theorem map_set_same {α β : Type} (g : α → β) : ∀ (l : List α) (j : Nat) (x y : α), l[j]? = some x → g y = g x → (l.set j y).map g = l.map g
  | [], _, _, _, h, _ => by simp at h
  | a :: r, 0, x, y, h, e => by simp at h; subst h; simp [e]
  | a :: r, j + 1, x, y, h, e => by simp at h; simp [map_set_same g r j x y h e]
theorem ME.set {es es' : Array MapEntry} {clock j : Nat} {f : List UInt8 → Int} (h : ME es clock f) {id : List UInt8} (hid : id.length = 4) {e0 : MapEntry} (hj : es.toList[j]? = some e0) (hk : e0.key = digV id) (z : Int) (he' : es'.toList = es.toList.set j ⟨digV id, .int .i64 z, e0.born⟩) : ME es' clock (updK f id z) := by
  have hjl : j < es.toList.length := (List.getElem?_eq_some_iff.1 hj).1
  have hmem : ∀ e ∈ es'.toList, e = ⟨digV id, .int .i64 z, e0.born⟩ ∨ (e ∈ es.toList ∧ e.key ≠ digV id) := fun e he => by
    rw [he'] at he
    obtain ⟨i, hi, e2⟩ := List.getElem_of_mem he
    by_cases hij : j = i
    · subst hij
      rw [List.getElem_set_self] at e2
      exact Or.inl e2.symm
    · rw [List.getElem_set_ne hij] at e2
      rw [List.length_set] at hi
      refine Or.inr ⟨e2 ▸ List.getElem_mem _, fun hpe => hij ?_⟩
      refine (List.getElem_inj (h₀ := by rw [List.length_map]; exact hjl) (h₁ := by rw [List.length_map]; exact hi) h.nod).1 ?_
      rw [List.getElem_map, List.getElem_map, e2, hpe, (List.getElem?_eq_some_iff.1 hj).2, hk]
  have hkeys : es'.toList.map (·.key) = es.toList.map (·.key) := by rw [he']; exact map_set_same _ _ _ _ _ hj hk.symm
  refine ⟨fun e he => ?_, by rw [hkeys]; exact h.nod, fun i hi => ?_, by rw [he', map_set_same (fun e : MapEntry => e.born) es.toList j e0 ⟨digV id, .int .i64 z, e0.born⟩ hj rfl]; exact h.born, fun e he => ?_⟩
  · rcases hmem e he with rfl | ⟨h1, h2⟩
    · exact ⟨id, hid, rfl, by rw [updK_same]⟩
    · obtain ⟨i, a1, a2, a3⟩ := h.keys e h1
      exact ⟨i, a1, a2, by rw [updK_ne f z (fun e2 => h2 (by rw [a2, e2]))]; exact a3⟩
  · have hall : ∀ e ∈ es.toList, e.key ≠ digV i := fun e he he2 => by
      have : digV i ∈ es'.toList.map (·.key) := by rw [hkeys]; exact List.mem_map.2 ⟨e, he, he2⟩
      obtain ⟨x, hx, hx2⟩ := List.mem_map.1 this
      exact hi x hx hx2
    have h1 : i ≠ id := fun e => hall e0 (List.mem_of_getElem? hj) (by rw [hk, e])
    rw [updK_ne f z h1]; exact h.none i hall
  · rcases hmem e he with rfl | ⟨h1, _⟩
    · exact h.lt e0 (List.mem_of_getElem? hj)
    · exact h.lt e h1
/-- block b is a map: f -/
def MI (w : World) (b : Nat) (f : List UInt8 → Int) : Prop := ∃ es clock, w.heap[b]? = some (.map es clock) ∧ ME es clock f
/-- and entry st is that of id -/
def MS (w : World) (b : Nat) (f : List UInt8 → Int) (st : Nat) (id : List UInt8) : Prop := ∃ (es : Array MapEntry) (clock j : Nat) (e0 : MapEntry), w.heap[b]? = some (.map es clock) ∧ ME es clock f ∧ es.toList[j]? = some e0 ∧ e0.born = st ∧ e0.key = digV id
theorem MS.mi {w : World} {b st : Nat} {f : List UInt8 → Int} {id : List UInt8} (h : MS w b f st id) : MI w b f := by
  obtain ⟨es, c, j, e0, h1, h2, _⟩ := h
  exact ⟨es, c, h1, h2⟩
theorem MI.lt {w : World} {b : Nat} {f : List UInt8 → Int} (h : MI w b f) : b < w.heap.size := by
  obtain ⟨es, c, h1, _⟩ := h
  exact (Array.getElem?_eq_some_iff.1 h1).1
theorem MI.same {w w' : World} {b : Nat} {f : List UInt8 → Int} (h : MI w b f) (k : w'.heap[b]? = w.heap[b]?) : MI w' b f := by
  obtain ⟨es, c, h1, h2⟩ := h
  exact ⟨es, c, k.trans h1, h2⟩
theorem MS.same {w w' : World} {b st : Nat} {f : List UInt8 → Int} {id : List UInt8} (h : MS w b f st id) (k : w'.heap[b]? = w.heap[b]?) : MS w' b f st id := by
  obtain ⟨es, c, j, e0, h1, h2⟩ := h
  exact ⟨es, c, j, e0, k.trans h1, h2⟩
theorem MI.ext {w w' : World} {b : Nat} {f : List UInt8 → Int} (h : MI w b f) (k : Ex w w') : MI w' b f := h.same (k.block b h.lt)
theorem Only.mi {g b : Nat} {w w' : World} {f : List UInt8 → Int} (k : Only g w w') (h : MI w b f) (hne : b ≠ g) : MI w' b f := h.same (k.other b hne)
theorem mi_new (w : World) : MI (w.alloc (.map #[] 0)) w.heap.size (fun _ => 0) := ⟨#[], 0, by unfold World.alloc; exact Array.getElem?_push_size, ME.zero⟩
/-- a map is no block of cells -/
theorem MI.bk {w : World} {b g : Nat} {f : List UInt8 → Int} {t : TypeId} {cs : Array Value} (h : MI w b f) (hb : Bk w g t cs) : g ≠ b := fun e => by
  obtain ⟨es, c, h1, _⟩ := h
  unfold Bk at hb
  rw [e, h1] at hb; cases hb
theorem MI.tc {w w' : World} {b D : Nat} {rv : Value} {vs : List Vt} {f : List UInt8 → Int} (h : MI w b f) (k : Tc D rv.ownBlock w w') (ht : TB w D rv vs) : MI w' b f := by
  refine h.same (k.block b h.lt (fun e => h.bk ht.blk e.symm) (fun e => ?_))
  rcases ht.row.blk with h3 | ⟨gb, h3, _, _, cs2, hb2⟩
  · rw [h3] at e; cases e
  · rw [h3] at e; cases e; exact h.bk hb2 rfl
theorem only_set {w : World} {b : Nat} (o : Obj) (hb : b < w.heap.size) : Only b w (setBlock w b o) := by
  refine ⟨fun B hB a ha => ?_, fun h hne => ?_, ?_⟩
  · refine ha.trans ⟨rfl, rfl, rfl, ?_, fun k hk => ?_⟩
    · show w.heap.size ≤ (w.heap.setIfInBounds b o).size; simp
    · show (w.heap.setIfInBounds b o)[k]? = _
      rw [Array.getElem?_setIfInBounds_ne (by omega)]
  · show (w.heap.setIfInBounds b o)[h]? = _
    rw [Array.getElem?_setIfInBounds_ne (fun e => hne e.symm)]
  · show (w.heap.setIfInBounds b o).size = _; simp
theorem set_at {w : World} {b : Nat} (o : Obj) (hb : b < w.heap.size) : (setBlock w b o).heap[b]? = some o := by
  show (w.heap.setIfInBounds b o)[b]? = _
  rw [Array.getElem?_setIfInBounds_self_of_lt hb]
theorem MI.lookup {w : World} {b : Nat} {f : List UInt8 → Int} (h : MI w b f) {id : List UInt8} (hid : id.length = 4) : (Instr.lookup 90 (.map (some b)) (digV id) false).run Try.prog w = .ok (.int .i64 (f id)) w := by
  obtain ⟨es, clock, hb, he⟩ := h
  obtain ⟨kl, hkey⟩ := key4 hid
  rcases lawId.find w hkey es.toList he.law with ⟨h1, h2⟩ | ⟨j, e0, h1, h2, h3⟩
  · simp [Instr.lookup, run_underlying Try.underlying90, MapKept.run_getObj_map hb, lawId.check w _ hkey, h1, zeroI, Result.andThen, he.none id h2]
  · obtain ⟨i, a1, a2, a3⟩ := he.keys e0 (List.mem_of_getElem? h2)
    have : i = id := digV_inj (a2.symm.trans h3)
    subst this
    simp [Instr.lookup, run_underlying Try.underlying90, MapKept.run_getObj_map hb, lawId.check w _ hkey, h1, Result.andThen, a3]
theorem MI.update {w : World} {b : Nat} {f : List UInt8 → Int} (h : MI w b f) {id : List UInt8} (hid : id.length = 4) (z : Int) :
    ∃ w', (Instr.mapUpdate 90 (.map (some b)) (digV id) (.int .i64 z)).run Try.prog w = .ok () w' ∧ MI w' b (updK f id z) ∧ Only b w w' := by
  have hblt := h.lt
  obtain ⟨es, clock, hb, he⟩ := h
  obtain ⟨kl, hkey⟩ := key4 hid
  rcases lawId.find w hkey es.toList he.law with ⟨h1, h2⟩ | ⟨j, e0, h1, h2, h3⟩
  · exact ⟨setBlock w b (.map (es.push ⟨digV id, .int .i64 z, clock⟩) (clock + 1)), by simp [Instr.mapUpdate, run_underlying Try.underlying90, MapKept.run_getObj_map hb, lawId.check w false hkey, h1, MapKept.run_setObj_map _ hb, Result.andThen, setBlock], ⟨_, _, set_at _ hblt, he.push hid h2 z⟩, only_set _ hblt⟩
  · have hj : es[j]? = some e0 := by simpa using h2
    exact ⟨setBlock w b (.map (es.modify j (fun e' => { e' with key := digV id, val := .int .i64 z })) clock), by simp [Instr.mapUpdate, run_underlying Try.underlying90, MapKept.run_getObj_map hb, lawId.check w false hkey, h1, hj, h3, lawId.stays w hkey, MapKept.run_setObj_map _ hb, Result.andThen, setBlock], ⟨_, _, set_at _ hblt, he.set hid h2 h3 z (by rw [Array.toList_modify, Go.ChangeMaps.modify_eq_set _ _ _ _ h2])⟩, only_set _ hblt⟩
theorem set_self9 {α : Type} : ∀ (l : List α) (j : Nat) (a : α), l[j]? = some a → l.set j a = l
  | [], _, _, h => by simp at h
  | b :: r, 0, a, h => by simp at h; subst h; rfl
  | b :: r, j + 1, a, h => by simp at h; simp [set_self9 r j a h]
theorem MI.entry {w : World} {b : Nat} {f : List UInt8 → Int} (h : MI w b f) {id : List UInt8} (hid : id.length = 4) :
    ∃ (w' : World) (st : Nat), (Instr.mapEntry 90 (.map (some b)) (digV id)).run Try.prog w = .ok (.tuple #[.int .i64 (f id), goInt st]) w' ∧ MS w' b f st id ∧ Only b w w' := by
  have hblt := h.lt
  obtain ⟨es, clock, hb, he⟩ := h
  obtain ⟨kl, hkey⟩ := key4 hid
  rcases lawId.find w hkey es.toList he.law with ⟨h1, h2⟩ | ⟨j, e0, h1, h2, h3⟩
  · have hf := he.none id h2
    refine ⟨setBlock w b (.map (es.push ⟨digV id, .int .i64 0, clock⟩) (clock + 1)), clock, by simp [Instr.mapEntry, run_underlying Try.underlying90, MapKept.run_getObj_map hb, lawId.check w false hkey, h1, zeroI, MapKept.run_setObj_map _ hb, Result.andThen, setBlock, hf], ⟨_, _, es.size, ⟨digV id, .int .i64 0, clock⟩, set_at _ hblt, ?_, by simp, rfl, rfl⟩, only_set _ hblt⟩
    have hp := he.push hid h2 0
    have e : updK f id 0 = f := by
      funext i; unfold updK; split
      · rename_i h; rw [h, hf]
      · rfl
    rw [e] at hp; exact hp
  · have hj : es[j]? = some e0 := by simpa using h2
    obtain ⟨i, a1, a2, a3⟩ := he.keys e0 (List.mem_of_getElem? h2)
    have : i = id := digV_inj (a2.symm.trans h3)
    subst this
    have hsame : es.modify j (fun e => { e with key := digV i }) = es := by
      apply Array.ext'
      rw [Array.toList_modify, Go.ChangeMaps.modify_eq_set _ _ _ _ h2]
      have : ({ e0 with key := digV i } : MapEntry) = e0 := by rw [← h3]
      rw [this]
      exact set_self9 _ _ _ h2
    exact ⟨setBlock w b (.map es clock), e0.born, by simp [Instr.mapEntry, run_underlying Try.underlying90, MapKept.run_getObj_map hb, lawId.check w false hkey, h1, hj, h3, lawId.stays w hkey, hsame, MapKept.run_setObj_map _ hb, Result.andThen, setBlock, a3], ⟨es, clock, j, e0, set_at _ hblt, he, h2, rfl, h3⟩, only_set _ hblt⟩
theorem idx_born {l : List MapEntry} (hn : (l.map (·.born)).Nodup) {j : Nat} {e0 : MapEntry} (h : l[j]? = some e0) : l.findIdx? (fun e => ((e.born : Nat) : Int) == ((e0.born : Nat) : Int)) = some j := by
  induction l generalizing j with
  | nil => simp at h
  | cons a r ih =>
    simp only [List.map_cons, List.nodup_cons] at hn
    cases j with
    | zero =>
      simp only [List.getElem?_cons_zero, Option.some.injEq] at h
      subst h
      simp [List.findIdx?_cons]
    | succ j =>
      simp only [List.getElem?_cons_succ] at h
      have hne : a.born ≠ e0.born := fun e1 => hn.1 (List.mem_map.2 ⟨e0, List.mem_of_getElem? h, e1.symm⟩)
      have hb : (((a.born : Nat) : Int) == ((e0.born : Nat) : Int)) = false := by
        simp only [beq_eq_false_iff_ne, ne_eq, Int.natCast_inj]
        exact hne
      rw [List.findIdx?_cons, hb]
      simp [ih hn.2 h]
theorem MS.store {w : World} {b st : Nat} {f : List UInt8 → Int} {id : List UInt8} (h : MS w b f st id) (hid : id.length = 4) (z : Int) :
    ∃ w', (Instr.entryStore 90 (.map (some b)) (goInt st) (.int .i64 z)).run Try.prog w = .ok () w' ∧ MI w' b (updK f id z) ∧ Only b w w' := by
  have hblt := h.mi.lt
  obtain ⟨es, clock, j, e0, hb, he, h2, rfl, h3⟩ := h
  have hidx : es.findIdx? (fun e => ((e.born : Nat) : Int) == ((e0.born : Nat) : Int)) = some j := by
    rw [show es.findIdx? (fun e => ((e.born : Nat) : Int) == ((e0.born : Nat) : Int)) = es.toList.findIdx? (fun e => ((e.born : Nat) : Int) == ((e0.born : Nat) : Int)) by cases es; simp]
    exact idx_born he.born h2
  refine ⟨setBlock w b (.map (es.modify j (fun e => { e with val := .int .i64 z })) clock), by simp [Instr.entryStore, MapKept.run_getObj_map hb, asInt, asIntOf, goInt, hidx, MapKept.run_setObj_map _ hb, Result.andThen, setBlock], ⟨_, _, set_at _ hblt, he.set hid h2 h3 z ?_⟩, only_set _ hblt⟩
  rw [Array.toList_modify, Go.ChangeMaps.modify_eq_set _ _ _ _ h2, ← h3]
section
variable {o : Oper} {a : Act} {w : World} {K : Act → World → Prop} {Q : Exit → Act → World → Prop}
theorem wp_mlk (m x : Operand) (ho : o.op = .lookup 90 m x false) (b : Nat) (f : List UInt8 → Int) (h : MI w b f) (id : List UInt8) (hid : id.length = 4) (hm : a.eval m = .map (some b)) (hx : a.eval x = digV id)
    (hk : K (a.put o.dst (.int .i64 (f id))) w) : o.wp Try.prog a w K Q := by
  have hrun := h.lookup hid
  unfold Oper.wp
  simp [execOp, ho, hm, hx, hrun, Result.andThen]
  exact hk
theorem wp_mup (m x v : Operand) (ho : o.op = .mapUpdate 90 m x v) (b : Nat) (f : List UInt8 → Int) (h : MI w b f) (id : List UInt8) (z : Int) (hid : id.length = 4) (hm : a.eval m = .map (some b)) (hx : a.eval x = digV id) (hv : a.eval v = .int .i64 z)
    (hk : ∀ w', MI w' b (updK f id z) → Only b w w' → K (a.put o.dst undef) w') : o.wp Try.prog a w K Q := by
  obtain ⟨w', hrun, h1, h2⟩ := h.update hid z
  unfold Oper.wp
  simp [execOp, ho, hm, hx, hv, hrun, Result.andThen]
  exact hk w' h1 h2
theorem wp_men (m x : Operand) (ho : o.op = .mapEntry 90 m x) (b : Nat) (f : List UInt8 → Int) (h : MI w b f) (id : List UInt8) (hid : id.length = 4) (hm : a.eval m = .map (some b)) (hx : a.eval x = digV id)
    (hk : ∀ w' st, MS w' b f st id → Only b w w' → K (a.put o.dst (.tuple #[.int .i64 (f id), goInt st])) w') : o.wp Try.prog a w K Q := by
  obtain ⟨w', st, hrun, h1, h2⟩ := h.entry hid
  unfold Oper.wp
  simp [execOp, ho, hm, hx, hrun, Result.andThen]
  exact hk w' st h1 h2
theorem wp_mes (m x v : Operand) (ho : o.op = .entryStore 90 m x v) (b st : Nat) (f : List UInt8 → Int) (id : List UInt8) (z : Int) (h : MS w b f st id) (hid : id.length = 4) (hm : a.eval m = .map (some b)) (hx : a.eval x = goInt st) (hv : a.eval v = .int .i64 z)
    (hk : ∀ w', MI w' b (updK f id z) → Only b w w' → K (a.put o.dst undef) w') : o.wp Try.prog a w K Q := by
  obtain ⟨w', hrun, h1, h2⟩ := h.store hid z
  unfold Oper.wp
  simp [execOp, ho, hm, hx, hv, hrun, Result.andThen]
  exact hk w' h1 h2
end
section
variable {P : Program} {ops : Array Oper} {rest : List Oper} {d : Option Tmp} {t2 : TypeId} {pos : String} {af : Array Edge} {g : Option (Nat × Bool)} {a : Act} {w : World} {Q : Exit → Act → World → Prop}
theorem stop_mu {t : TypeId} {m x y : Operand} (k : Stop (wpList P ops Q ({ dst := d, op := .mapUpdate t m x y, type := t2, pos := pos, after := af, guard := g } :: rest) a w)) : wpList P ops Q ({ dst := d, op := .mapUpdate t m x y, type := t2, pos := pos, after := af, guard := g } :: rest) a w := k.go
theorem stop_lk {t : TypeId} {m x : Operand} {c : Bool} (k : Stop (wpList P ops Q ({ dst := d, op := .lookup t m x c, type := t2, pos := pos, after := af, guard := g } :: rest) a w)) : wpList P ops Q ({ dst := d, op := .lookup t m x c, type := t2, pos := pos, after := af, guard := g } :: rest) a w := k.go
end
end
section
open Go.RowKit
def LimI (v : Nat → List Vt) (fw fl : List UInt8 → Int) : Prop := ∀ i, i < 16 → ∀ x ∈ v i, x.ct.gone = false → fl x.id = x.ct.lim ∧ fw x.id = x.ct.used
theorem LimI.none {v : Nat → List Vt} {fw fl : List UInt8 → Int} (h : ∀ i, i < 16 → v i = []) : LimI v fw fl := fun i hi x hx => by rw [h i hi] at hx; simp at hx
inductive LK (fw fl : List UInt8 → Int) (q : Qc) (y : Rc) : (List UInt8 → Int) → (List UInt8 → Int) → Prop
  | fresh (ho : q.op = 1 ∨ q.op = 3) (hw : y.why = 0) (hs : y.sec = []) (l0 : 1 ≤ q.lim) (l1 : q.lim ≤ 32) : LK fw fl q y (updK fw q.id 0) (updK fl q.id q.lim)
  | refused (h0 : y.why ≠ 0) (h23 : y.why ≠ 23) (hs : y.sec = []) : LK fw fl q y fw fl
  | told (ho : q.op = 2) (hw : y.why = 0) (u l : Int) (hu : fw q.id = u) (hl : fl q.id = l) (u0 : 0 ≤ u) (ul : u < l) (l1 : l ≤ 32) : LK fw fl q y fw fl
  | wrong (ho : q.op = 2) (hw : y.why = 23) (hs : y.sec = []) (u l : Int) (hleft : y.left = l - (u + 1)) (hu : fw q.id = u) (hl : fl q.id = l) (u0 : 0 ≤ u) (ul : u < l) (l1 : l ≤ 32) : LK fw fl q y (updK fw q.id (u + 1)) fl
  | removed (ho : q.op = 4) (hw : y.why = 0) (hs : y.sec = []) : LK fw fl q y fw fl
theorem LimI.step {v : Nat → List Vt} {fw fl : List UInt8 → Int} {s : Nat} {ls : List Vt} {x : Vc} (h : LimI v fw fl) (hh : Home v) (hs16 : s < 16) (hr : Repl (v s) ls x) (hx : Sm.shV x.id = (s : Int)) {fw' fl' : List UInt8 → Int} (hf : ∀ i, i ≠ x.id → fw' i = fw i ∧ fl' i = fl i) (hn : x.gone = false → fl' x.id = x.lim ∧ fw' x.id = x.used) : LimI (updF v s ls) fw' fl' := fun i hi y hy hg => by
  by_cases e : i = s
  · subst e
    rw [updF_same] at hy
    rcases (hr y.ct).1 (List.mem_map.2 ⟨y, hy, rfl⟩) with h1 | ⟨h1, h2⟩
    · rw [show y.id = x.id from congrArg Vc.id h1, h1]
      rw [h1] at hg; exact hn hg
    · obtain ⟨z, hz, e2⟩ := List.mem_map.1 h1
      have h2 : y.id ≠ x.id := h2
      have hzi : z.id = y.id := congrArg Vc.id e2
      rw [(hf y.id h2).1, (hf y.id h2).2, ← e2, ← hzi]
      exact h i hi z hz (by rw [e2]; exact hg)
  · rw [updF_ne _ _ e] at hy
    have h2 : y.id ≠ x.id := fun e2 => e (by
      have h3 := hh i hi y hy
      rw [e2, hx] at h3
      omega)
    rw [(hf y.id h2).1, (hf y.id h2).2]
    exact h i hi y hy hg
theorem lim_step {v v' : Nat → List Vt} {fw fl : List UInt8 → Int} {s : Nat} {q : Qc} {y : Rc} (hs16 : s < 16) (ht : Tidy (v s)) (hh : Home v) (hl : LimI v fw fl) (hid : q.id.length = 4) (hs : Sm.shV q.id = (s : Int)) (hq : q.right = true) (h : IStep v s q y v') :
    ∃ fw' fl', LK fw fl q y fw' fl' ∧ LimI v' fw' fl' ∧ Home v' := by
  obtain ⟨c, hc, hk, h⟩ := istep_cur ht hid hq h
  have now : c.right = true → c.gone = false → fl q.id = c.lim ∧ fw q.id = c.used := fun hr hg => by
    rcases hc with ⟨h0, _⟩ | ⟨x, hx, e, e2⟩
    · rw [h0] at hr; exact absurd hr (by decide)
    · rw [← e] at hg ⊢; rw [← e2]; exact hl s hs16 x hx hg
  have hK := do_kind hq hk
  rcases h with ⟨h1, h2, rfl⟩ | ⟨h1, _, _, h2, rfl⟩ | ⟨h1, hf, h2, ls, rfl, hr⟩
  · -- nothing is changed
    rw [h1] at hK
    rw [← h2] at hK
    generalize (doC c q).1 = x at hK
    generalize hy : y = y2 at hK ⊢
    cases hK with
    | refused e h0 h23 => exact ⟨fw, fl, .refused h0 h23 rfl, hl, hh⟩
    | told ho hv hg hp =>
      have hn := now hv hg
      have sp := right_split hv hg
      exact ⟨fw, fl, .told ho rfl c.used c.lim hn.2 hn.1 sp.2.2.2.2.2.1 sp.2.2.2.2.2.2.1 sp.2.2.2.2.1, hl, hh⟩
  · refine ⟨fw, fl, .refused ?_ ?_ ?_, hl, hh⟩
    · rw [h2]; show (13 : Int) ≠ 0; decide
    · rw [h2]; show (13 : Int) ≠ 23; decide
    · rw [h2]; rfl
  · have hd := doC_changed hq hk h1
    have hx : Sm.shV (doC c q).1.id = (s : Int) := by rw [hd.2]; exact hs
    have hhome := hh.step hr hx
    rw [h1] at hK
    rw [← h2] at hK
    generalize (doC c q).1 = x at hK hr hx hhome hd
    generalize hy : y = y2 at hK ⊢
    cases hK with
    | fresh ho hg =>
      have hp := qright_parts hq ho
      refine ⟨_, _, .fresh ho rfl rfl hp.1 hp.2.1, hl.step hh hs16 hr hx (fun i hi => ?_) (fun _ => ⟨?_, ?_⟩), hhome⟩
      · have hi : i ≠ q.id := hi
        exact ⟨updK_ne _ _ hi, updK_ne _ _ hi⟩
      · exact updK_same _ _ _
      · exact updK_same _ _ _
    | wrong ho hv hg =>
      have hn := now hv hg
      have sp := right_split hv hg
      refine ⟨_, _, .wrong ho rfl rfl c.used c.lim (wrong_left hv hg) hn.2 hn.1 sp.2.2.2.2.2.1 sp.2.2.2.2.2.2.1 sp.2.2.2.2.1, hl.step hh hs16 hr hx (fun i hi => ?_) (fun hgo => ?_), hhome⟩
      · rw [hd.2] at hi
        exact ⟨updK_ne _ _ hi, rfl⟩
      · rw [hd.2, updK_same]
        unfold wrongC at hgo ⊢
        by_cases e : c.used + 1 = c.lim
        · rw [if_pos e] at hgo; cases hgo
        · rw [if_neg e]; exact ⟨hn.1, rfl⟩
    | removed ho hv hg =>
      exact ⟨fw, fl, .removed ho rfl rfl, hl.step hh hs16 hr hx (fun i hi => ⟨rfl, rfl⟩) (fun hgo => by cases hgo), hhome⟩
/-- a map's block turned: what is made of cells stays -/
theorem MI.kt {w w' : World} {b : Nat} {f : List UInt8 → Int} (h : MI w b f) (k : Md b w w') : Kt [] 0 w w' :=
  ⟨k.below 0 (Nat.zero_le _) w (Below.refl 0 w), fun i cs t fr hi _ => (k.other i (fun e => by
    subst e
    obtain ⟨es, c, h1, _⟩ := h
    rw [hi] at h1; cases h1) (Array.getElem?_eq_some_iff.1 hi).1).trans hi⟩
theorem IM.kts0 {B M : Nat} {w w' : World} {D : Nat → Nat} {r : Nat → Value} {v : Nat → List Vt} (h : IM w B M D r v) (k : Kt [] 0 w w') : IM w' B M D r v := ⟨k.bk h.blk (by simp), h.ts.kts k (by simp) (by simp) (by simp)⟩
theorem QB.kts0 {w w' : World} {g : Nat} {q : Qt} (h : QB w g q) (k : Kt [] 0 w w') : QB w' g q := ⟨h.1, k.bk h.2 (by simp)⟩
theorem RB.kts0 {w w' : World} {g : Nat} {y : Rt} (h : RB w g y) (k : Kt [] 0 w w') : RB w' g y := ⟨h.1, k.bk h.2 (by simp)⟩
theorem Md.mi {g b : Nat} {w w' : World} {f : List UInt8 → Int} (k : Md g w w') (h : MI w b f) (hne : b ≠ g) : MI w' b f := h.same (k.other b hne h.lt)
/-- the state of region 15 -/
structure E15 (w0 : World) (m : Nat) (fw : List UInt8 → Int) (id : List UInt8) (u : Int) (l : Array Bool) (f : Nat → Value) (w : World) : Prop where
  md : Md m w0 w
  mi : l.getD 7 false = false → MI w m fw
  fin : l.getD 7 false = true → MI w m (updK fw id u)
  st : l.getD 7 false = false → l.getD 5 false = true → ∃ (st : Nat) (v0 : Value), f 5 = .tuple #[v0, goInt st] ∧ MS w m fw st id ∧ (l.getD 6 false = true → f 6 = goInt st)
theorem E15.plain {w0 w w' : World} {m : Nat} {fw : List UInt8 → Int} {id : List UInt8} {u : Int} {l : Array Bool} {f : Nat → Value} (h : E15 w0 m fw id u l f w) (i : Nat) (hi : i ≠ 5 ∧ i ≠ 6 ∧ i ≠ 7) (k : w' = w) {x : Value} : E15 w0 m fw id u (l.setIfInBounds i true) (upd f i x) w' := by
  subst k
  refine ⟨h.md, ?_, ?_, ?_⟩
  · rw [gset hi.2.2 false]; exact h.mi
  · rw [gset hi.2.2 false]; exact h.fin
  · rw [gset hi.2.2 false, gset hi.1 false, gset hi.2.1 false, upd_ne _ _ (Ne.symm hi.1), upd_ne _ _ (Ne.symm hi.2.1)]; exact h.st
theorem E15.s5 {w0 w w' : World} {m : Nat} {fw : List UInt8 → Int} {id : List UInt8} {u : Int} {l : Array Bool} {f : Nat → Value} (h : E15 w0 m fw id u l f w) (h5 : 5 < l.size) (h7 : l.getD 7 false = false) (h6 : l.getD 6 false = false) {st : Nat} {v0 : Value} (hs : MS w' m fw st id) (ho : Only m w w') : E15 w0 m fw id u (l.setIfInBounds 5 true) (upd f 5 (.tuple #[v0, goInt st])) w' := by
  refine ⟨h.md.trans ho.md, fun _ => hs.mi, ?_, ?_⟩
  · rw [gset (by decide) false, h7]; intro e; cases e
  · rw [gset (by decide) false, set_new h5, gset (by decide) false, upd_same, upd_ne _ _ (by decide), h6]
    exact fun _ _ => ⟨st, v0, rfl, hs, fun e => by cases e⟩
theorem E15.s6 {w0 w : World} {m : Nat} {fw : List UInt8 → Int} {id : List UInt8} {u : Int} {l : Array Bool} {f : Nat → Value} (h : E15 w0 m fw id u l f w) {st : Nat} {v0 : Value} (h5 : f 5 = .tuple #[v0, goInt st]) : E15 w0 m fw id u (l.setIfInBounds 6 true) (upd f 6 (goInt st)) w := by
  refine ⟨h.md, ?_, ?_, ?_⟩
  · rw [gset (by decide) false]; exact h.mi
  · rw [gset (by decide) false]; exact h.fin
  · rw [gset (by decide) false, gset (by decide) false, upd_ne _ _ (by decide), upd_same]
    intro a b
    obtain ⟨st', v', e, hm, _⟩ := h.st a b
    rw [h5] at e
    have e2 : st' = st := by
      have := Value.tuple.inj e
      simp [goInt] at this
      omega
    exact ⟨st', v', h5.trans e, hm, fun _ => by rw [e2]⟩
theorem E15.s7 {w0 w w' : World} {m : Nat} {fw : List UInt8 → Int} {id : List UInt8} {u : Int} {l : Array Bool} {f : Nat → Value} (h : E15 w0 m fw id u l f w) (h7 : 7 < l.size) (hm : MI w' m (updK fw id u)) (ho : Only m w w') {x : Value} : E15 w0 m fw id u (l.setIfInBounds 7 true) (upd f 7 x) w' := by
  refine ⟨h.md.trans ho.md, ?_, fun _ => hm, ?_⟩
  · rw [set_new h7]; intro e; cases e
  · rw [set_new h7]; intro e; cases e
/-- the state of region 13 -/
structure E13 (w0 : World) (m : Nat) (fl fw : List UInt8 → Int) (id : List UInt8) (z : Int) (l8 l9 : Bool) (w : World) : Prop where
  k : Kt [] 0 w0 w
  b : ∀ B, B ≤ m → ∀ a, Below B a w0 → Below B a w
  m1 : MI w m (if l8 = true then updK fl id z else fl)
  m2 : MI w (m + 1) (if l9 = true then updK fw id 0 else fw)
theorem E13.start {w0 w : World} {m : Nat} {fl fw : List UInt8 → Int} {id : List UInt8} {z : Int} (h : Ex w0 w) (hm : m ≤ w0.heap.size) (m1 : MI w0 m fl) (m2 : MI w0 (m + 1) fw) : E13 w0 m fl fw id z false false w :=
  ⟨h.kt (Nat.zero_le _), fun B hB a ha => Below.trans ha (h.mono (Nat.le_trans hB hm)), m1.ext h, m2.ext h⟩
theorem E13.plain {w0 w : World} {m : Nat} {fl fw : List UInt8 → Int} {id : List UInt8} {z : Int} {l : Array Bool} (h : E13 w0 m fl fw id z (l.getD 8 false) (l.getD 9 false) w) (i : Nat) (hi : i ≠ 8 ∧ i ≠ 9) : E13 w0 m fl fw id z ((l.setIfInBounds i true).getD 8 false) ((l.setIfInBounds i true).getD 9 false) w := by
  rw [gset hi.1 false, gset hi.2 false]; exact h
theorem E13.s8 {w0 w w' : World} {m : Nat} {fl fw : List UInt8 → Int} {id : List UInt8} {z : Int} {l : Array Bool} (hl : 8 < l.size) (h : E13 w0 m fl fw id z (l.getD 8 false) (l.getD 9 false) w) (hm : MI w' m (updK fl id z)) (k : Only m w w') : E13 w0 m fl fw id z ((l.setIfInBounds 8 true).getD 8 false) ((l.setIfInBounds 8 true).getD 9 false) w' := by
  rw [set_new hl, gset (by decide) false]
  exact ⟨h.k.trans (h.m1.kt k.md), fun B hB a ha => k.below B hB a (h.b B hB a ha), hm, k.mi h.m2 (by omega)⟩
theorem E13.s9 {w0 w w' : World} {m : Nat} {fl fw : List UInt8 → Int} {id : List UInt8} {z : Int} {l : Array Bool} (hl : 9 < l.size) (h : E13 w0 m fl fw id z (l.getD 8 false) (l.getD 9 false) w) (hm : MI w' (m + 1) (updK fw id 0)) (k : Only (m + 1) w w') : E13 w0 m fl fw id z ((l.setIfInBounds 9 true).getD 8 false) ((l.setIfInBounds 9 true).getD 9 false) w' := by
  rw [gset (by decide) false, set_new hl]
  exact ⟨h.k.trans (h.m2.kt k.md), fun B hB a ha => k.below B (by omega) a (h.b B hB a ha), k.mi h.m1 (by omega), hm⟩
theorem tm5 (a : Int) : -9223372036854775808 ≤ a.tmod 5 ∧ a.tmod 5 ≤ 9223372036854775807 := by
  have h := Int.natAbs_tmod a 5
  rw [show (5 : Int).natAbs = 5 from rfl] at h
  have h1 := Int.le_natAbs (a := a.tmod 5)
  have h2 := Int.le_natAbs (a := -(a.tmod 5))
  rw [Int.natAbs_neg] at h2
  have h3 := Nat.mod_lt a.natAbs (show 0 < 5 by decide)
  omega
end
end Go.Proofs.Ytmjfnpmnhehnkaa
