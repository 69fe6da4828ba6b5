/- Sh -/
import Derived.Test.YtmjfnpmnhehnkaaZau
import Derived.Test.YtmjfnpmnhehnkaaZav
import Derived.Test.YtmjfnpmnhehnkaaZav
namespace Go.Proofs.Ytmjfnpmnhehnkaa
open Go.RowKit
/-- a row of what is drawn for vaults -/
structure Kvp.In (ad : Option Addr) (cap : Nat) (l : List Kv) (w : World) : Prop where
  len : l.length ≤ cap
  nil : ad = none → cap = 0
  ins : ∀ (i : Nat) (x : Kv), l[i]? = some x → x.In w
  read : 0 < l.length → ∃ a o, ad = some ⟨a, o, none⟩ ∧ a < w.heap.size ∧ ∀ (i : Nat) (x : Kv), l[i]? = some x → w.rangeAt a (o + i * 8) x.C
theorem Kvp.In.ext {ad : Option Addr} {cap : Nat} {l : List Kv} {w w' : World} (h : Kvp.In ad cap l w) (k : Ex w w') : Kvp.In ad cap l w' :=
  ⟨h.len, h.nil, fun i x hx => (h.ins i x hx).ext k, fun h0 => by
    obtain ⟨a, o, e, hB, hc⟩ := h.read h0
    exact ⟨a, o, e, Nat.lt_of_lt_of_le hB k.sz', fun i x hx j v hv => (Below.cell (p := ⟨a, o + i * 8 + j, none⟩) k hB).trans (hc i x hx j v hv)⟩⟩
theorem Try.sizeKv : (Try.prog.info? 27).map (·.size) = some 8 := by kernel_rfl
theorem ld_kv {o : Oper} {a : Act} {w : World} {K : Act → World → Prop} {Q : Exit → Act → World → Prop} (y : Operand) (g off : Nat) (x : Kv) (ho : o.op = .load 27 y) (ha : a.eval y = .pointer (some ⟨g, off, none⟩)) (h : w.rangeAt g off x.C) (hk : K (a.put o.dst x.V) w) : o.wp Try.prog a w K Q := by
  obtain ⟨dd, hd⟩ : ∃ d, Try.prog.underlying 27 = some d ∧ d.isRow = true := ⟨_, Try.underlying27, rfl⟩
  exact wp_load_mid 27 y ho g off ha x.C dd h hd.1 hd.2 (by rw [Try.sizeKv]; rfl) hk
theorem wp_lk2 {o : Oper} {a : Act} {w : World} {K : Act → World → Prop} {Q : Exit → Act → World → Prop} (m x : Operand) (ho : o.op = .lookup 65 m x true) (b : Nat) (ps : List (List UInt8 × Vt)) (h : MB w b ps) (id : List UInt8) (hid : id.length = 4) (hm : a.eval m = .map (some b)) (hx : a.eval x = digV id)
    (hk : ∀ (u : Vt) (f : Bool), (f = false → u = zeroVt ∧ ∀ p, p ∈ ps → p.1 ≠ id) → (f = true → (id, u) ∈ ps) → K (a.put o.dst (.tuple #[u.V, .bool f])) w) : o.wp Try.prog a w K Q := by
  rcases h.lookup hid with ⟨hrun, hno⟩ | ⟨u, hrun, hu⟩
  · unfold Oper.wp
    simp [execOp, ho, hm, hx, hrun, Result.andThen]
    exact hk zeroVt false (fun _ => ⟨rfl, hno⟩) (fun h => by cases h)
  unfold Oper.wp
  simp [execOp, ho, hm, hx, hrun, Result.andThen]
  exact hk u true (fun h => by cases h) (fun _ => hu)
theorem TVN.tc9 {w w' : World} {D : Nat} {rv : Value} {vs : List Vt} {x : Vt} (h : TVN w x) (k : Tc D rv.ownBlock w w') (ht : TB w D rv vs) : TVN w' x := ⟨h.ok, h.sec.tc9 k ht, h.len⟩
/-- a block that is made (ia) and stored into (ib), what is stored made by a call (ic) -/
structure SA3 (ia ib ic : Nat) (w0 : World) (t : TypeId) (k : Nat) (G : Value → World → Prop) (F : Array Value → World → Prop) (l : Array Bool) (f : Nat → Value) (w : World) : Prop where
  ex : Ex w0 w
  ea : l.getD ia false = true → l.getD ib false = false → ∃ g z, f ia = .pointer (some ⟨g, 0, none⟩) ∧ w0.heap.size ≤ g ∧ z.size = k ∧ Bk w g t z
  ec : l.getD ic false = true → l.getD ib false = false → G (f ic) w
  eb : l.getD ib false = true → ∃ g cs, f ia = .pointer (some ⟨g, 0, none⟩) ∧ w0.heap.size ≤ g ∧ Bk w g t cs ∧ F cs w
section
variable {ia ib ic : Nat} {w0 w w' : World} {t : TypeId} {k : Nat} {G : Value → World → Prop} {F : Array Value → World → Prop} {l : Array Bool} {f : Nat → Value} {x : Value}
theorem SA3.start (h0 : ∀ i, l.getD i false = false) (hx : Ex w0 w) : SA3 ia ib ic w0 t k G F l f w := ⟨hx, (fun a => by rw [h0] at a; cases a), (fun a => by rw [h0] at a; cases a), (fun a => by rw [h0] at a; cases a)⟩
theorem SA3.plain (h : SA3 ia ib ic w0 t k G F l f w) (hG : ∀ v a b, G v a → Ex a b → G v b) (hF : ∀ v a b, F v a → Ex a b → F v b) (kx : Ex w w') (i : Nat) (hi : i ≠ ia ∧ i ≠ ib ∧ i ≠ ic) : SA3 ia ib ic w0 t k G F (l.setIfInBounds i true) (upd f i x) w' := by
  refine ⟨Ex.trans h.ex kx, fun a b => ?_, fun a b => ?_, fun a => ?_⟩
  · rw [gset hi.1 false] at a; rw [gset hi.2.1 false] at b; rw [upd_ne _ _ (Ne.symm hi.1)]
    obtain ⟨g, z, h1, h2, h3, h4⟩ := h.ea a b
    exact ⟨g, z, h1, h2, h3, h4.ext kx⟩
  · rw [gset hi.2.2 false] at a; rw [gset hi.2.1 false] at b; rw [upd_ne _ _ (Ne.symm hi.2.2)]
    exact hG _ _ _ (h.ec a b) kx
  rw [gset hi.2.1 false] at a; rw [upd_ne _ _ (Ne.symm hi.1)]
  obtain ⟨g, cs, h1, h2, h3, h4⟩ := h.eb a
  exact ⟨g, cs, h1, h2, h3.ext kx, hF _ _ _ h4 kx⟩
theorem SA3.sa (h : SA3 ia ib ic w0 t k G F l f w) (hG : ∀ v a b, G v a → Ex a b → G v b) (n1 : ia ≠ ib) (n2 : ia ≠ ic) (hb : l.getD ib false = false) (kx : Ex w w') {z : Array Value} (hz : z.size = k) (hx : x = .pointer (some ⟨w.heap.size, 0, none⟩)) (hbk : Bk w' w.heap.size t z) : SA3 ia ib ic w0 t k G F (l.setIfInBounds ia true) (upd f ia x) w' := by
  refine ⟨Ex.trans h.ex kx, fun _ _ => ?_, fun a b => ?_, fun a => ?_⟩
  · rw [upd_same]; exact ⟨w.heap.size, z, hx, Below.size h.ex, hz, hbk⟩
  · rw [gset n2 false] at a; rw [gset n1 false] at b; rw [upd_ne _ _ (Ne.symm n2)]
    exact hG _ _ _ (h.ec a b) kx
  rw [gset n1 false, hb] at a; cases a
theorem SA3.sc (h : SA3 ia ib ic w0 t k G F l f w) (n1 : ic ≠ ib) (n2 : ia ≠ ic) (hb : l.getD ib false = false) (kx : Ex w w') (hg : G x w') : SA3 ia ib ic w0 t k G F (l.setIfInBounds ic true) (upd f ic x) w' := by
  refine ⟨Ex.trans h.ex kx, fun a b => ?_, fun _ _ => ?_, fun a => ?_⟩
  · rw [gset (Ne.symm n2) false] at a; rw [gset n1 false] at b; rw [upd_ne _ _ n2]
    obtain ⟨g, z, h1, h2, h3, h4⟩ := h.ea a b
    exact ⟨g, z, h1, h2, h3, h4.ext kx⟩
  · rw [upd_same]; exact hg
  rw [gset n1 false, hb] at a; cases a
theorem SA3.sb (h : SA3 ia ib ic w0 t k G F l f w) (n1 : ia ≠ ib) (hl : ib < l.size) {g : Nat} (hg : f ia = .pointer (some ⟨g, 0, none⟩)) (hge : w0.heap.size ≤ g) (ho : Only g w w') {cs : Array Value} (hb : Bk w' g t cs) (hf : F cs w') : SA3 ia ib ic w0 t k G F (l.setIfInBounds ib true) (upd f ib x) w' := by
  refine ⟨ho.below w0.heap.size hge w0 h.ex, fun _ b => ?_, fun _ b => ?_, fun _ => ?_⟩
  · rw [set_new hl] at b; cases b
  · rw [set_new hl] at b; cases b
  rw [upd_ne _ _ n1]; exact ⟨g, cs, hg, hge, hb, hf⟩
end
/-- the vaults of all shards, and a map of the same -/
structure KRel (v : Nat → List Vt) (ps : List (List UInt8 × Vt)) : Prop where
  a : ∀ k, k < 16 → ∀ y, y ∈ v k → y.id.length = 4 ∧ Sm.shV y.id = (k : Int) ∧ ∃ z, (y.id, z) ∈ ps ∧ z.ct = y.ct
  b : ∀ q, q ∈ ps → ∃ k, k < 16 ∧ ∃ y, y ∈ v k ∧ y.id = q.1
  n : (allV v 16).length = ps.length
theorem KRel.nil {v : Nat → List Vt} (h : ∀ i, i < 16 → v i = []) : KRel v [] := by
  have hn : ∀ n, n ≤ 16 → (allV v n).length = 0 := fun n => by
    induction n with
    | zero => intro _; rfl
    | succ n ih => intro hn; rw [allV_succ, List.length_append, ih (by omega), h n (by omega)]; rfl
  refine ⟨fun k hk y hy => ?_, fun q hq => ?_, hn 16 (Nat.le_refl _)⟩
  · rw [h k hk] at hy; cases hy
  cases hq
theorem allV_upd (v : Nat → List Vt) (s : Nat) (ls : List Vt) : ∀ n, (allV (updF v s ls) n).length + (if s < n then (v s).length else 0) = (allV v n).length + (if s < n then ls.length else 0)
  | 0 => by simp [allV]
  | n + 1 => by
    have ih := allV_upd v s ls n
    rw [allV_succ, allV_succ, List.length_append, List.length_append]
    by_cases e : s = n
    · subst e
      rw [updF_same, if_pos (Nat.lt_succ_self s), if_pos (Nat.lt_succ_self s)]
      rw [if_neg (Nat.lt_irrefl s), if_neg (Nat.lt_irrefl s)] at ih
      omega
    · rw [updF_ne _ _ (fun h => e h.symm)]
      by_cases h : s < n
      · rw [if_pos (Nat.lt_succ_of_lt h), if_pos (Nat.lt_succ_of_lt h)]
        rw [if_pos h, if_pos h] at ih; omega
      · rw [if_neg (by omega), if_neg (by omega)]
        rw [if_neg h, if_neg h] at ih; omega
/-- the same of an ID: in the table, in the map -/
theorem KRel.there {w : World} {D : Nat} {rv : Value} {v : Nat → List Vt} {ps : List (List UInt8 × Vt)} {s : Nat} (h : KRel v ps) (hs : s < 16) (ht : TB w D rv (v s)) {id : List UInt8} (hid : id.length = 4) (hsh : Sm.shV id = (s : Int)) : NotIn (v s) (idn id) ↔ ∀ q, q ∈ ps → q.1 ≠ id := by
  constructor
  · intro hn q hq e
    obtain ⟨k, hk, y, hy, ey⟩ := h.b q hq
    obtain ⟨h1, h2, _⟩ := h.a k hk y hy
    have hks : k = s := by rw [ey, e, hsh] at h2; omega
    subst hks
    obtain ⟨i, hi, e2⟩ := List.getElem_of_mem hy
    exact hn ⟨i, hi, by rw [idF_at (v k) i y (by rw [List.getElem?_eq_getElem hi, e2]), ey, e]⟩
  rintro hn ⟨i, hi, e⟩
  have hy : (v s)[i]? = some (v s)[i] := List.getElem?_eq_getElem hi
  obtain ⟨h1, _, z, hz, _⟩ := h.a s hs _ (List.mem_of_getElem? hy)
  rw [idF_at (v s) i _ hy] at e
  exact hn _ hz (idn_inj h1 hid e)
theorem KRel.put {w : World} {D : Nat} {rv : Value} {v : Nat → List Vt} {ps ps' : List (List UInt8 × Vt)} {s : Nat} {x : Vt} {ls : List Vt} (h : KRel v ps) (hs : s < 16) (ht : TB w D rv (v s)) (hid : x.id.length = 4) (hsh : Sm.shV x.id = (s : Int)) (hr : x.ct.right = true) (hp : PutRel (v s) x ls) (hroom : ¬ (NotIn (v s) (idn x.id) ∧ (v s).length = 4))
    (hm : ∀ p, p ∈ ps' ↔ p = (x.id, x) ∨ (p ∈ ps ∧ p.1 ≠ x.id)) (hl : ((∃ p, p ∈ ps ∧ p.1 = x.id) ∧ ps'.length = ps.length) ∨ ((∀ p, p ∈ ps → p.1 ≠ x.id) ∧ ps'.length = ps.length + 1)) : KRel (updF v s ls) ps' := by
  have hth := h.there hs ht hid hsh
  have hidv : ∀ y, y ∈ v s → y.id.length = 4 := fun y hy => (h.a s hs y hy).1
  rcases hp with ⟨h1, _⟩ | ⟨_, p, z, hbi, hz, hp⟩
  · rw [h1] at hr; cases hr
  have hzid : z.id = x.id := congrArg Vc.id hz
  -- what the new row has
  have key : (∀ y, y ∈ ls ↔ y = z ∨ (y ∈ v s ∧ y.id ≠ x.id)) ∧ (allV (updF v s ls) 16).length = ps'.length := by
    have hlen := allV_upd v s ls 16
    rw [if_pos hs, if_pos hs, h.n] at hlen
    rcases hp with ⟨hp1, hp2, rfl⟩ | ⟨h1, h2, _⟩ | ⟨h1, h2, rfl⟩
    · have hlp : (v s)[p]? = some (v s)[p] := List.getElem?_eq_getElem hp1
      have hpid : (v s)[p].id = x.id := idn_inj (hidv _ (List.mem_of_getElem? hlp)) hid (by rw [← idF_at (v s) p _ hlp]; exact hp2)
      have huniq : ∀ (i : Nat) (y : Vt), (v s)[i]? = some y → y.id = x.id → i = p := fun i y hy e => by
        have hi := (List.getElem?_eq_some_iff.1 hy).1
        have e1 : idF (v s) i = idF (v s) p := by rw [idF_at (v s) i y hy, e, hp2]
        rcases Nat.lt_trichotomy i p with h9 | h9 | h9
        · have := ht.srt i p h9 hp1; omega
        · exact h9
        · have := ht.srt p i h9 hi; omega
      refine ⟨fun y => ⟨fun hy => ?_, fun hy => ?_⟩, ?_⟩
      · obtain ⟨i, hi⟩ := List.mem_iff_getElem?.1 hy
        by_cases e : p = i
        · subst e; rw [List.getElem?_set_self hp1] at hi; cases hi; exact Or.inl rfl
        · rw [List.getElem?_set_ne e] at hi
          exact Or.inr ⟨List.mem_of_getElem? hi, fun e2 => e (huniq i y hi e2).symm⟩
      · rcases hy with rfl | ⟨hy, hne⟩
        · exact List.mem_iff_getElem?.2 ⟨p, List.getElem?_set_self hp1⟩
        · obtain ⟨i, hi⟩ := List.mem_iff_getElem?.1 hy
          have e : p ≠ i := fun e => by subst e; rw [hlp] at hi; cases hi; exact hne hpid
          exact List.mem_iff_getElem?.2 ⟨i, by rw [List.getElem?_set_ne e]; exact hi⟩
      · rw [List.length_set] at hlen
        obtain ⟨_, _, u, hu, _⟩ := h.a s hs _ (List.mem_of_getElem? hlp)
        rcases hl with ⟨_, h2⟩ | ⟨h2, _⟩
        · omega
        · exact absurd hpid (h2 _ hu)
    · exact absurd ⟨h1, h2⟩ hroom
    · refine ⟨fun y => ⟨fun hy => ?_, fun hy => ?_⟩, ?_⟩
      · rcases List.mem_append.1 hy with hy | hy
        · have hy := List.mem_of_mem_take hy
          exact Or.inr ⟨hy, fun e => by
            obtain ⟨i, hi, e2⟩ := List.getElem_of_mem hy
            exact h1 ⟨i, hi, by rw [idF_at (v s) i y (by rw [List.getElem?_eq_getElem hi, e2]), e]⟩⟩
        · rcases List.mem_cons.1 hy with rfl | hy
          · exact Or.inl rfl
          · have hy := List.mem_of_mem_drop hy
            exact Or.inr ⟨hy, fun e => by
              obtain ⟨i, hi, e2⟩ := List.getElem_of_mem hy
              exact h1 ⟨i, hi, by rw [idF_at (v s) i y (by rw [List.getElem?_eq_getElem hi, e2]), e]⟩⟩
      · rcases hy with rfl | ⟨hy, _⟩
        · exact List.mem_append_right _ List.mem_cons_self
        · rw [← List.take_append_drop p (v s)] at hy
          rcases List.mem_append.1 hy with hy | hy
          · exact List.mem_append_left _ hy
          · exact List.mem_append_right _ (List.mem_cons_of_mem _ hy)
      · have e2 : ((v s).take p ++ z :: (v s).drop p).length = (v s).length + 1 := by
          rw [List.length_append, List.length_cons, List.length_take, List.length_drop]; have := hbi.1; omega
        rw [e2] at hlen
        rcases hl with ⟨⟨q, hq, hqe⟩, _⟩ | ⟨_, h3⟩
        · exact absurd hqe (hth.1 h1 q hq)
        · omega
  refine ⟨fun k hk y hy => ?_, fun q hq => ?_, key.2⟩
  · by_cases e : k = s
    · subst e
      rw [updF_same] at hy
      rcases (key.1 y).1 hy with rfl | ⟨hy, hne⟩
      · exact ⟨by rw [hzid]; exact hid, by rw [hzid]; exact hsh, x, (hm _).2 (Or.inl (by rw [hzid])), hz.symm⟩
      obtain ⟨h1, h2, u, hu, hc⟩ := h.a k hk y hy
      exact ⟨h1, h2, u, (hm _).2 (Or.inr ⟨hu, hne⟩), hc⟩
    rw [updF_ne _ _ e] at hy
    obtain ⟨h1, h2, u, hu, hc⟩ := h.a k hk y hy
    exact ⟨h1, h2, u, (hm _).2 (Or.inr ⟨hu, fun e3 => e (by have e3 : y.id = x.id := e3; rw [e3, hsh] at h2; omega)⟩), hc⟩
  rcases (hm q).1 hq with rfl | ⟨hq, hne⟩
  · exact ⟨s, hs, z, by rw [updF_same]; exact (key.1 z).2 (Or.inl rfl), hzid⟩
  obtain ⟨k, hk, y, hy, ey⟩ := h.b q hq
  refine ⟨k, hk, y, ?_, ey⟩
  by_cases e : k = s
  · subst e
    rw [updF_same]; exact (key.1 y).2 (Or.inr ⟨hy, by rw [ey]; exact hne⟩)
  rw [updF_ne _ _ e]; exact hy
def cntC (v : Nat → List Vt) : List Value := (List.range 16).map fun i => .int .i64 ((v i).length : Int)
theorem cntC_len (v : Nat → List Vt) : (cntC v).length = 16 := by unfold cntC; rw [List.length_map, List.length_range]
theorem cntC_at (v : Nat → List Vt) {i : Nat} (hi : i < 16) : (cntC v)[i]? = some (.int .i64 ((v i).length : Int)) := by
  unfold cntC
  rw [List.getElem?_map, List.getElem?_range hi]; rfl
theorem cntC_set (v : Nat → List Vt) {s : Nat} (hs : s < 16) (ls : List Vt) : (cntC v).set s (.int .i64 (ls.length : Int)) = cntC (updF v s ls) := by
  apply List.ext_getElem?
  intro i
  by_cases e : s = i
  · subst e
    rw [List.getElem?_set_self (by rw [cntC_len]; exact hs), cntC_at _ hs, updF_same]
  rw [List.getElem?_set_ne e]
  unfold cntC
  rw [List.getElem?_map, List.getElem?_map]
  rcases Nat.lt_or_ge i 16 with h | h
  · rw [List.getElem?_range h]; simp only [Option.map_some]; rw [updF_ne _ _ (fun h => e h.symm)]
  rw [List.getElem?_eq_none (by rw [List.length_range]; exact h)]; rfl
theorem cntC_eq (v : Nat → List Vt) {s : Nat} {ls : List Vt} (h : ls.length = (v s).length) : cntC (updF v s ls) = cntC v := by
  unfold cntC
  apply List.map_congr_left
  intro i _
  by_cases e : i = s
  · subst e; rw [updF_same, h]
  rw [updF_ne _ _ e]
end Go.Proofs.Ytmjfnpmnhehnkaa
