/- Sm -/
import Derived.Test.YtmjfnpmnhehnkaaZat
import Derived.WideKeyPair
import Derived.WideKeyElems
import Derived.ChangeMaps3
namespace Go.Proofs.Ytmjfnpmnhehnkaa
open Go.RowKit Go.ChangeShapes Go.WideShapes Go.WideMaps Go.MapKept
open Go.ChangeMaps (setBlock heap_setBlock_same heap_setBlock_other)
theorem Try.arrId : ArrKey Try.prog 32 5 4 := ⟨Try.underlying32, by kernel_rfl, by kernel_rfl, by kernel_rfl⟩
theorem Try.tysz : ∃ m, Try.prog.types.size = m + 1 := ⟨Try.prog.types.size - 1, by
  have h : decide (0 < Try.prog.types.size) = true := by kernel_rfl
  have := of_decide_eq_true h
  omega⟩
theorem lawId : KeyLaw Try.prog 32 := ArrKey.law Try.arrId
theorem wf_u8 (a : UInt8) : (Lit.int .u8 (a.toNat : Int)).wf = true := by
  have := a.toNat_lt
  simp [Lit.wf, IntKind.min, IntKind.max, IntKind.signed, IntKind.bits]
  omega
theorem key4 {id : List UInt8} (h : id.length = 4) : ∃ l, keyOf Try.prog 32 (digV id) = some l := by
  obtain ⟨a, b, c, d, rfl⟩ := len4 h
  have hkt := ArrKey.keyType Try.arrId Try.tysz
  obtain ⟨m, hm⟩ := Try.tysz
  refine ⟨.string (keyBytes [.int .u8 (a.toNat : Int), .int .u8 (b.toNat : Int), .int .u8 (c.toNat : Int), .int .u8 (d.toNat : Int)]), ?_⟩
  show keyOf Try.prog 32 (.agg #[.int .u8 (a.toNat : Int), .int .u8 (b.toNat : Int), .int .u8 (c.toNat : Int), .int .u8 (d.toNat : Int)]) = _
  unfold keyOf
  simp only [Try.arrId.hu]
  rw [if_pos (by simp [hkt, Value.formed, Try.arrId.hu, Try.arrId.size]), hm]
  unfold Program.keyLits
  simp only [Try.arrId.hu, Value.cells]
  rw [if_pos (by rw [Try.arrId.size]; rfl), show List.range 4 = [0, 1, 2, 3] from rfl, List.mapM_cons, List.mapM_cons, List.mapM_cons, List.mapM_cons, List.mapM_nil]
  simp [Try.arrId.one, Program.keyLits, Try.underlying5, wf_u8]
theorem digV_inj {x y : List UInt8} (h : digV x = digV y) : x = y := by
  have h1 : Lib.byteCells x = Lib.byteCells y := by
    have := Value.agg.inj h
    simpa using this
  unfold Lib.byteCells at h1
  refine (List.map_inj_right (fun a b e => ?_)).1 h1
  have : (a.toNat : Int) = b.toNat := by injection e
  exact UInt8.toNat_inj.1 (by omega)
theorem zeroE (w : World) : (zeroValue 36).run Try.prog w = .ok zeroVt.V w := by kernel_rfl
/-- a map's block: what it has -/
structure MB (w : World) (b : Nat) (ps : List (List UInt8 × Vt)) : Prop where
  ex : ∃ (es : Array MapEntry) (clock : Nat), w.heap[b]? = some (.map es clock) ∧ es.toList.map (fun e => (e.key, e.val)) = ps.map (fun p => (digV p.1, p.2.V))
  ids : ∀ p, p ∈ ps → p.1.length = 4
  nod : (ps.map (·.1)).Nodup
theorem MB.ext {w w' : World} {b : Nat} {ps : List (List UInt8 × Vt)} (h : MB w b ps) (k : w'.heap[b]? = w.heap[b]?) : MB w' b ps := ⟨by
  obtain ⟨es, c, h1, h2⟩ := h.ex
  exact ⟨es, c, k.trans h1, h2⟩, h.ids, h.nod⟩
theorem MB.lt {w : World} {b : Nat} {ps : List (List UInt8 × Vt)} (h : MB w b ps) : b < w.heap.size := by
  obtain ⟨es, c, h1, _⟩ := h.ex
  exact (Array.getElem?_eq_some_iff.1 h1).1
theorem MB.size {w : World} {b : Nat} {ps : List (List UInt8 × Vt)} (h : MB w b ps) : ∃ (es : Array MapEntry) (clock : Nat), w.heap[b]? = some (.map es clock) ∧ es.size = ps.length := by
  obtain ⟨es, c, h1, h2⟩ := h.ex
  exact ⟨es, c, h1, by have := congrArg List.length h2; simpa using this⟩
theorem entry_at {es : Array MapEntry} {ps : List (List UInt8 × Vt)} (h : es.toList.map (fun e => (e.key, e.val)) = ps.map (fun p => (digV p.1, p.2.V))) {j : Nat} {e : MapEntry} (he : es.toList[j]? = some e) : ∃ p, ps[j]? = some p ∧ e.key = digV p.1 ∧ e.val = p.2.V := by
  have h1 := congrArg (fun l => l[j]?) h
  simp only [List.getElem?_map, he, Option.map_some] at h1
  cases hp : ps[j]? with
  | none => rw [hp] at h1; simp at h1
  | some p =>
    rw [hp] at h1
    simp only [Option.map_some, Option.some.injEq, Prod.mk.injEq] at h1
    exact ⟨p, rfl, h1.1, h1.2⟩
theorem nod_idx {ps : List (List UInt8 × Vt)} (h : (ps.map (·.1)).Nodup) {i j : Nat} {p q : List UInt8 × Vt} (hi : ps[i]? = some p) (hj : ps[j]? = some q) (e : p.1 = q.1) : i = j := by
  obtain ⟨hi1, hi2⟩ := List.getElem?_eq_some_iff.1 hi
  obtain ⟨hj1, hj2⟩ := List.getElem?_eq_some_iff.1 hj
  refine (List.getElem_inj (h₀ := by rw [List.length_map]; exact hi1) (h₁ := by rw [List.length_map]; exact hj1) h).1 ?_
  rw [List.getElem_map, List.getElem_map, hi2, hj2, e]
theorem keys_of {es : Array MapEntry} {ps : List (List UInt8 × Vt)} (h : es.toList.map (fun e => (e.key, e.val)) = ps.map (fun p => (digV p.1, p.2.V))) (hid : ∀ p, p ∈ ps → p.1.length = 4) : ∀ e ∈ es.toList, ∃ l, keyOf Try.prog 32 e.key = some l := by
  intro e he
  obtain ⟨j, hj, e2⟩ := List.getElem_of_mem he
  obtain ⟨p, hp, hk, _⟩ := entry_at h (j := j) (e := e) (by rw [List.getElem?_eq_getElem hj, e2])
  rw [hk]; exact key4 (hid p (List.mem_of_getElem? hp))
theorem MB.lookup {w : World} {b : Nat} {ps : List (List UInt8 × Vt)} (h : MB w b ps) {id : List UInt8} (hid : id.length = 4) :
    ((Instr.lookup 65 (.map (some b)) (digV id) true).run Try.prog w = .ok (.tuple #[zeroVt.V, .bool false]) w ∧ ∀ p, p ∈ ps → p.1 ≠ id) ∨
    ∃ v, (Instr.lookup 65 (.map (some b)) (digV id) true).run Try.prog w = .ok (.tuple #[v.V, .bool true]) w ∧ (id, v) ∈ ps := by
  obtain ⟨es, clock, hb, he⟩ := h.ex
  obtain ⟨kl, hkey⟩ := key4 hid
  rcases lawId.find w hkey es.toList (keys_of he h.ids) with ⟨h1, h2⟩ | ⟨j, e0, h1, h2, h3⟩
  · refine Or.inl ⟨by simp [Instr.lookup, run_underlying Try.underlying65, MapKept.run_getObj_map hb, lawId.check w _ hkey, h1, zeroE, Result.andThen]; rfl, fun p hp hpe => ?_⟩
    obtain ⟨j, hj, e2⟩ := List.getElem_of_mem hp
    have hl : es.toList.length = ps.length := by have := congrArg List.length he; simpa using this
    have hje : es.toList[j]? = some es.toList[j] := List.getElem?_eq_getElem (by rw [hl]; exact hj)
    obtain ⟨q, hq, hk, _⟩ := entry_at he hje
    rw [List.getElem?_eq_getElem hj, e2] at hq
    cases hq
    exact h2 _ (List.mem_of_getElem? hje) (by rw [hk, hpe])
  obtain ⟨p, hp, hk, hv⟩ := entry_at he h2
  refine Or.inr ⟨p.2, by simp [Instr.lookup, run_underlying Try.underlying65, MapKept.run_getObj_map hb, lawId.check w _ hkey, h1, Result.andThen, hv], ?_⟩
  have : p.1 = id := digV_inj (hk.symm.trans h3)
  rw [← this]; exact List.mem_of_getElem? hp
theorem grown_set {w : World} {b : Nat} {o : Obj} (hb : b < w.heap.size) : w.grownBy { w with heap := w.heap.setIfInBounds b o } (some b) :=
  ⟨rfl, rfl, rfl, by simp, fun k hk hne => by
    show (w.heap.setIfInBounds b o)[k]? = _
    rw [Array.getElem?_setIfInBounds_ne (fun e => hne (by rw [e]))]⟩
theorem MB.update {w : World} {b : Nat} {ps : List (List UInt8 × Vt)} (h : MB w b ps) {id : List UInt8} (hid : id.length = 4) (v : Vt) :
    ∃ w' ps', (Instr.mapUpdate 65 (.map (some b)) (digV id) v.V).run Try.prog w = .ok () w' ∧ MB w' b ps' ∧ w.grownBy w' (some b) ∧
      (∀ p, p ∈ ps' ↔ p = (id, v) ∨ (p ∈ ps ∧ p.1 ≠ id)) ∧ (((∃ p, p ∈ ps ∧ p.1 = id) ∧ ps'.length = ps.length) ∨ ((∀ p, p ∈ ps → p.1 ≠ id) ∧ ps'.length = ps.length + 1)) := by
  obtain ⟨es, clock, hb, he⟩ := h.ex
  obtain ⟨kl, hkey⟩ := key4 hid
  have hblt := h.lt
  rcases lawId.find w hkey es.toList (keys_of he h.ids) with ⟨h1, h2⟩ | ⟨j, e0, h1, h2, h3⟩
  · have hno : ∀ p, p ∈ ps → p.1 ≠ id := fun p hp hpe => by
      obtain ⟨j, hj, e2⟩ := List.getElem_of_mem hp
      have hl : es.toList.length = ps.length := by have := congrArg List.length he; simpa using this
      have hje : es.toList[j]? = some es.toList[j] := List.getElem?_eq_getElem (by rw [hl]; exact hj)
      obtain ⟨q, hq, hk, _⟩ := entry_at he hje
      rw [List.getElem?_eq_getElem hj, e2] at hq
      cases hq
      exact h2 _ (List.mem_of_getElem? hje) (by rw [hk, hpe])
    refine ⟨_, ps ++ [(id, v)], by simp [Instr.mapUpdate, run_underlying Try.underlying65, MapKept.run_getObj_map hb, lawId.check w false hkey, h1, MapKept.run_setObj_map _ hb, Result.andThen]; rfl, ⟨⟨es.push ⟨digV id, v.V, clock⟩, clock + 1, ?_, ?_⟩, ?_, ?_⟩, grown_set hblt, fun p => ?_, Or.inr ⟨hno, by simp⟩⟩
    · show (w.heap.setIfInBounds b _)[b]? = _
      rw [Array.getElem?_setIfInBounds_self_of_lt hblt]
    · rw [Array.toList_push, List.map_append, he, List.map_append]; rfl
    · intro p hp
      rcases List.mem_append.1 hp with hp | hp
      · exact h.ids p hp
      rw [List.mem_singleton.1 hp]; exact hid
    · rw [List.map_append, List.nodup_append]
      refine ⟨h.nod, by simp, fun a ha c hc => ?_⟩
      obtain ⟨p, hp, rfl⟩ := List.mem_map.1 ha
      have : c = id := by simpa using hc
      rw [this]; exact hno p hp
    rw [List.mem_append, List.mem_singleton]
    constructor
    · rintro (hp | hp)
      · exact Or.inr ⟨hp, hno p hp⟩
      exact Or.inl hp
    rintro (hp | hp)
    · exact Or.inr hp
    exact Or.inl hp.1
  obtain ⟨p0, hp0, hk, hv⟩ := entry_at he h2
  have hid0 : p0.1 = id := digV_inj (hk.symm.trans h3)
  have hj : es[j]? = some e0 := by simpa using h2
  have hjl : j < ps.length := (List.getElem?_eq_some_iff.1 hp0).1
  have hkeys : (ps.set j (id, v)).map (·.1) = ps.map (·.1) := by
    rw [List.map_set]
    apply List.ext_getElem?
    intro i
    by_cases e : j = i
    · subst e
      rw [List.getElem?_set_self (by rw [List.length_map]; exact hjl), List.getElem?_map, hp0]
      show some id = some p0.1
      rw [hid0]
    · rw [List.getElem?_set_ne e]
  refine ⟨_, ps.set j (id, v), by simp [Instr.mapUpdate, run_underlying Try.underlying65, MapKept.run_getObj_map hb, lawId.check w false hkey, h1, hj, h3, lawId.stays w hkey, MapKept.run_setObj_map _ hb, Result.andThen]; rfl, ⟨⟨es.modify j (fun e' => { e' with key := digV id, val := v.V }), clock, ?_, ?_⟩, ?_, ?_⟩, grown_set hblt, fun p => ?_, Or.inl ⟨⟨p0, List.mem_of_getElem? hp0, hid0⟩, by simp⟩⟩
  · show (w.heap.setIfInBounds b _)[b]? = _
    rw [Array.getElem?_setIfInBounds_self_of_lt hblt]
  · rw [Array.toList_modify, Go.ChangeMaps.modify_eq_set _ _ _ _ h2, List.map_set, he, List.map_set]
  · intro p hp
    rcases List.mem_or_eq_of_mem_set hp with hp | rfl
    · exact h.ids p hp
    exact hid
  · rw [hkeys]; exact h.nod
  constructor
  · intro hp
    obtain ⟨i, hi, e⟩ := List.getElem_of_mem hp
    by_cases hij : j = i
    · subst hij
      rw [List.getElem_set_self] at e
      exact Or.inl e.symm
    rw [List.getElem_set_ne hij] at e
    rw [List.length_set] at hi
    refine Or.inr ⟨e ▸ List.getElem_mem _, fun hpe => hij ?_⟩
    exact nod_idx h.nod hp0 (by rw [List.getElem?_eq_getElem hi, e]) (by rw [hid0, hpe])
  rintro (rfl | ⟨hp, hne⟩)
  · exact List.mem_iff_getElem.2 ⟨j, by rw [List.length_set]; exact hjl, List.getElem_set_self _⟩
  obtain ⟨i, hi, e⟩ := List.getElem_of_mem hp
  refine List.mem_iff_getElem.2 ⟨i, by rw [List.length_set]; exact hi, ?_⟩
  have hij : j ≠ i := by
    rintro rfl
    rw [List.getElem?_eq_getElem hi, e] at hp0
    cases hp0
    exact hne hid0
  rw [List.getElem_set_ne hij, e]
section
variable {o : Oper} {a : Act} {w : World} {K : Act → World → Prop} {Q : Exit → Act → World → Prop}
theorem wp_mu (m x v : Operand) (ho : o.op = .mapUpdate 65 m x v) (b : Nat) (ps : List (List UInt8 × Vt)) (h : MB w b ps) (id : List UInt8) (z : Vt) (hid : id.length = 4) (hm : a.eval m = .map (some b)) (hx : a.eval x = digV id) (hv : a.eval v = z.V)
    (hk : ∀ w' ps', MB w' b ps' → w.grownBy w' (some b) → (∀ p, p ∈ ps' ↔ p = (id, z) ∨ (p ∈ ps ∧ p.1 ≠ id)) → (((∃ p, p ∈ ps ∧ p.1 = id) ∧ ps'.length = ps.length) ∨ ((∀ p, p ∈ ps → p.1 ≠ id) ∧ ps'.length = ps.length + 1)) → K (a.put o.dst undef) w') : o.wp Try.prog a w K Q := by
  obtain ⟨w', ps', hrun, h1, h2, h3, h4⟩ := h.update hid z
  unfold Oper.wp
  simp [execOp, ho, hm, hx, hv, hrun, Result.andThen]
  exact hk w' ps' h1 h2 h3 h4
theorem wp_lk (m x : Operand) (ho : o.op = .lookup 65 m x true) (b : Nat) (ps : List (List UInt8 × Vt)) (h : MB w b ps) (id : List UInt8) (v : Vt) (hid : id.length = 4) (hin : (id, v) ∈ ps) (hm : a.eval m = .map (some b)) (hx : a.eval x = digV id)
    (hk : K (a.put o.dst (.tuple #[v.V, .bool true])) w) : o.wp Try.prog a w K Q := by
  rcases h.lookup hid with ⟨_, hno⟩ | ⟨u, hrun, hu⟩
  · exact absurd rfl (hno _ hin)
  have huv : u = v := by
    obtain ⟨i, hi, ei⟩ := List.getElem_of_mem hu
    obtain ⟨j, hj, ej⟩ := List.getElem_of_mem hin
    have hij := nod_idx h.nod (i := i) (j := j) (p := (id, u)) (q := (id, v)) (by rw [List.getElem?_eq_getElem hi, ei]) (by rw [List.getElem?_eq_getElem hj, ej]) rfl
    subst hij
    rw [ei] at ej
    exact (Prod.mk.inj ej).2
  subst huv
  unfold Oper.wp
  simp [execOp, ho, hm, hx, hrun, Result.andThen]
  exact hk
end
section
variable {P : Program} {ops : Array Oper} {rest : List Oper} {d : Option Tmp} {t2 : TypeId} {pos : String} {af : Array Edge} {g : Option (Nat × Bool)} {a : Act} {w : World} {Q : Exit → Act → World → Prop}
theorem stop_mu {t : TypeId} {m x y : Operand} (k : Stop (wpList P ops Q ({ dst := d, op := .mapUpdate t m x y, type := t2, pos := pos, after := af, guard := g } :: rest) a w)) : wpList P ops Q ({ dst := d, op := .mapUpdate t m x y, type := t2, pos := pos, after := af, guard := g } :: rest) a w := k.go
theorem stop_lk {t : TypeId} {m x : Operand} {c : Bool} (k : Stop (wpList P ops Q ({ dst := d, op := .lookup t m x c, type := t2, pos := pos, after := af, guard := g } :: rest) a w)) : wpList P ops Q ({ dst := d, op := .lookup t m x c, type := t2, pos := pos, after := af, guard := g } :: rest) a w := k.go
end
end Go.Proofs.Ytmjfnpmnhehnkaa
