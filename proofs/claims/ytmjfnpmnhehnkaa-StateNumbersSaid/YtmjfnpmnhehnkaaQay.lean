/- Sh, Si, Sq -/
import Derived.Test.YtmjfnpmnhehnkaaQaw
import Derived.Test.YtmjfnpmnhehnkaaQaw
import Derived.Test.YtmjfnpmnhehnkaaQax
import Derived.Test.YtmjfnpmnhehnkaaQax
import Derived.Great.BuildSlice
import Derived.Deep.Upon
set_option maxRecDepth 100000
set_option maxHeartbeats 16000000
namespace Go.Proofs.Ytmjfnpmnhehnkaa
open Go.RowKit
structure Kvp.In (ad : Option Addr) (cap : Nat) (l : List Kv) (w : World) : Prop where
  len : l.length ≤ cap
  nil : ad = none → cap = 0
  ins : ∀ (i : Nat) (x : Kv), l[i]? = some x → x.In w
  read : 0 < l.length → ∃ a o, ad = some ⟨a, o, none⟩ ∧ a < w.heap.size ∧ ∀ (i : Nat) (x : Kv), l[i]? = some x → w.rangeAt a (o + i * 8) x.C
theorem Kvp.In.ext {ad : Option Addr} {cap : Nat} {l : List Kv} {w w' : World} (h : Kvp.In ad cap l w) (k : Ex w w') : Kvp.In ad cap l w' :=
  ⟨h.len, h.nil, fun i x hx => (h.ins i x hx).ext k, fun h0 => by
    obtain ⟨a, o, e, hB, hc⟩ := h.read h0
    exact ⟨a, o, e, Nat.lt_of_lt_of_le hB k.sz', fun i x hx j v hv => (Below.cell (p := ⟨a, o + i * 8 + j, none⟩) k hB).trans (hc i x hx j v hv)⟩⟩
theorem Try.sizeKv : (Try.prog.info? 27).map (·.size) = some 8 := by kernel_rfl
theorem ld_kv {o : Oper} {a : Act} {w : World} {K : Act → World → Prop} {Q : Exit → Act → World → Prop} (y : Operand) (g off : Nat) (x : Kv) (ho : o.op = .load 27 y) (ha : a.eval y = .pointer (some ⟨g, off, none⟩)) (h : w.rangeAt g off x.C) (hk : K (a.put o.dst x.V) w) : o.wp Try.prog a w K Q := by
  obtain ⟨dd, hd⟩ : ∃ d, Try.prog.underlying 27 = some d ∧ d.isRow = true := ⟨_, Try.underlying27, rfl⟩
  exact wp_load_mid 27 y ho g off ha x.C dd h hd.1 hd.2 (by rw [Try.sizeKv]; rfl) hk
theorem TVN.tc9 {w w' : World} {D : Nat} {rv : Value} {vs : List Vt} {x : Vt} (h : TVN w x) (k : Tc D rv.ownBlock w w') (ht : TB w D rv vs) : TVN w' x := ⟨h.ok, h.sec.tc9 k ht, h.len⟩
structure SA3 (ia ib ic : Nat) (w0 : World) (t : TypeId) (k : Nat) (G : Value → World → Prop) (F : Array Value → World → Prop) (l : Array Bool) (f : Nat → Value) (w : World) : Prop where
  ex : Ex w0 w
  ea : l.getD ia false = true → l.getD ib false = false → ∃ g z, f ia = .pointer (some ⟨g, 0, none⟩) ∧ w0.heap.size ≤ g ∧ z.size = k ∧ Bk w g t z
  ec : l.getD ic false = true → l.getD ib false = false → G (f ic) w
  eb : l.getD ib false = true → ∃ g cs, f ia = .pointer (some ⟨g, 0, none⟩) ∧ w0.heap.size ≤ g ∧ Bk w g t cs ∧ F cs w
section
variable {ia ib ic : Nat} {w0 w w' : World} {t : TypeId} {k : Nat} {G : Value → World → Prop} {F : Array Value → World → Prop} {l : Array Bool} {f : Nat → Value} {x : Value}
theorem SA3.start (h0 : ∀ i, l.getD i false = false) (hx : Ex w0 w) : SA3 ia ib ic w0 t k G F l f w := ⟨hx, (fun a => by rw [h0] at a; cases a), (fun a => by rw [h0] at a; cases a), (fun a => by rw [h0] at a; cases a)⟩
theorem SA3.plain (h : SA3 ia ib ic w0 t k G F l f w) (hG : ∀ v a b, G v a → Ex a b → G v b) (hF : ∀ v a b, F v a → Ex a b → F v b) (kx : Ex w w') (i : Nat) (hi : i ≠ ia ∧ i ≠ ib ∧ i ≠ ic) : SA3 ia ib ic w0 t k G F (l.setIfInBounds i true) (upd f i x) w' := by
  refine ⟨Ex.trans h.ex kx, fun a b => ?_, fun a b => ?_, fun a => ?_⟩
  · rw [gset hi.1 false] at a; rw [gset hi.2.1 false] at b; rw [upd_ne _ _ (Ne.symm hi.1)]
    obtain ⟨g, z, h1, h2, h3, h4⟩ := h.ea a b
    exact ⟨g, z, h1, h2, h3, h4.ext kx⟩
  · rw [gset hi.2.2 false] at a; rw [gset hi.2.1 false] at b; rw [upd_ne _ _ (Ne.symm hi.2.2)]
    exact hG _ _ _ (h.ec a b) kx
  rw [gset hi.2.1 false] at a; rw [upd_ne _ _ (Ne.symm hi.1)]
  obtain ⟨g, cs, h1, h2, h3, h4⟩ := h.eb a
  exact ⟨g, cs, h1, h2, h3.ext kx, hF _ _ _ h4 kx⟩
theorem SA3.sa (h : SA3 ia ib ic w0 t k G F l f w) (hG : ∀ v a b, G v a → Ex a b → G v b) (n1 : ia ≠ ib) (n2 : ia ≠ ic) (hb : l.getD ib false = false) (kx : Ex w w') {z : Array Value} (hz : z.size = k) (hx : x = .pointer (some ⟨w.heap.size, 0, none⟩)) (hbk : Bk w' w.heap.size t z) : SA3 ia ib ic w0 t k G F (l.setIfInBounds ia true) (upd f ia x) w' := by
  refine ⟨Ex.trans h.ex kx, fun _ _ => ?_, fun a b => ?_, fun a => ?_⟩
  · rw [upd_same]; exact ⟨w.heap.size, z, hx, Below.size h.ex, hz, hbk⟩
  · rw [gset n2 false] at a; rw [gset n1 false] at b; rw [upd_ne _ _ (Ne.symm n2)]
    exact hG _ _ _ (h.ec a b) kx
  rw [gset n1 false, hb] at a; cases a
theorem SA3.sb (h : SA3 ia ib ic w0 t k G F l f w) (n1 : ia ≠ ib) (hl : ib < l.size) {g : Nat} (hg : f ia = .pointer (some ⟨g, 0, none⟩)) (hge : w0.heap.size ≤ g) (ho : Only g w w') {cs : Array Value} (hb : Bk w' g t cs) (hf : F cs w') : SA3 ia ib ic w0 t k G F (l.setIfInBounds ib true) (upd f ib x) w' := by
  refine ⟨ho.below w0.heap.size hge w0 h.ex, fun _ b => ?_, fun _ b => ?_, fun _ => ?_⟩
  · rw [set_new hl] at b; cases b
  · rw [set_new hl] at b; cases b
  rw [upd_ne _ _ n1]; exact ⟨g, cs, hg, hge, hb, hf⟩
end
structure KRel (v : Nat → List Vt) (ps : List (List UInt8 × Vt)) : Prop where
  a : ∀ k, k < 16 → ∀ y, y ∈ v k → y.id.length = 4 ∧ Sm.shV y.id = (k : Int) ∧ ∃ z, (y.id, z) ∈ ps ∧ z.ct = y.ct
  b : ∀ q, q ∈ ps → ∃ k, k < 16 ∧ ∃ y, y ∈ v k ∧ y.id = q.1
  n : (allV v 16).length = ps.length
theorem KRel.nil {v : Nat → List Vt} (h : ∀ i, i < 16 → v i = []) : KRel v [] := by
  have hn : ∀ n, n ≤ 16 → (allV v n).length = 0 := fun n => by
    induction n with
    | zero => intro _; rfl
    | succ n ih => intro hn; rw [allV_succ, List.length_append, ih (by omega), h n (by omega)]; rfl
  refine ⟨fun k hk y hy => ?_, fun q hq => ?_, hn 16 (Nat.le_refl _)⟩
  · rw [h k hk] at hy; cases hy
  cases hq
theorem allV_upd (v : Nat → List Vt) (s : Nat) (ls : List Vt) : ∀ n, (allV (updF v s ls) n).length + (if s < n then (v s).length else 0) = (allV v n).length + (if s < n then ls.length else 0)
  | 0 => by simp [allV]
  | n + 1 => by
    have ih := allV_upd v s ls n
    rw [allV_succ, allV_succ, List.length_append, List.length_append]
    by_cases e : s = n
    · subst e
      rw [updF_same, if_pos (Nat.lt_succ_self s), if_pos (Nat.lt_succ_self s)]
      rw [if_neg (Nat.lt_irrefl s), if_neg (Nat.lt_irrefl s)] at ih
      omega
    · rw [updF_ne _ _ (fun h => e h.symm)]
      by_cases h : s < n
      · rw [if_pos (Nat.lt_succ_of_lt h), if_pos (Nat.lt_succ_of_lt h)]
        rw [if_pos h, if_pos h] at ih; omega
      · rw [if_neg (by omega), if_neg (by omega)]
        rw [if_neg h, if_neg h] at ih; omega
theorem KRel.there {w : World} {D : Nat} {rv : Value} {v : Nat → List Vt} {ps : List (List UInt8 × Vt)} {s : Nat} (h : KRel v ps) (hs : s < 16) (ht : TB w D rv (v s)) {id : List UInt8} (hid : id.length = 4) (hsh : Sm.shV id = (s : Int)) : NotIn (v s) (idn id) ↔ ∀ q, q ∈ ps → q.1 ≠ id := by
  constructor
  · intro hn q hq e
    obtain ⟨k, hk, y, hy, ey⟩ := h.b q hq
    obtain ⟨h1, h2, _⟩ := h.a k hk y hy
    have hks : k = s := by rw [ey, e, hsh] at h2; omega
    subst hks
    obtain ⟨i, hi, e2⟩ := List.getElem_of_mem hy
    exact hn ⟨i, hi, by rw [idF_at (v k) i y (by rw [List.getElem?_eq_getElem hi, e2]), ey, e]⟩
  rintro hn ⟨i, hi, e⟩
  have hy : (v s)[i]? = some (v s)[i] := List.getElem?_eq_getElem hi
  obtain ⟨h1, _, z, hz, _⟩ := h.a s hs _ (List.mem_of_getElem? hy)
  rw [idF_at (v s) i _ hy] at e
  exact hn _ hz (idn_inj h1 hid e)
theorem KRel.put {w : World} {D : Nat} {rv : Value} {v : Nat → List Vt} {ps ps' : List (List UInt8 × Vt)} {s : Nat} {x : Vt} {ls : List Vt} (h : KRel v ps) (hs : s < 16) (ht : TB w D rv (v s)) (hid : x.id.length = 4) (hsh : Sm.shV x.id = (s : Int)) (hr : x.ct.right = true) (hp : PutRel (v s) x ls) (hroom : ¬ (NotIn (v s) (idn x.id) ∧ (v s).length = 4))
    (hm : ∀ p, p ∈ ps' ↔ p = (x.id, x) ∨ (p ∈ ps ∧ p.1 ≠ x.id)) (hl : ((∃ p, p ∈ ps ∧ p.1 = x.id) ∧ ps'.length = ps.length) ∨ ((∀ p, p ∈ ps → p.1 ≠ x.id) ∧ ps'.length = ps.length + 1)) : KRel (updF v s ls) ps' := by
  have hth := h.there hs ht hid hsh
  have hidv : ∀ y, y ∈ v s → y.id.length = 4 := fun y hy => (h.a s hs y hy).1
  rcases hp with ⟨h1, _⟩ | ⟨_, p, z, hbi, hz, hp⟩
  · rw [h1] at hr; cases hr
  have hzid : z.id = x.id := congrArg Vc.id hz
  -- what the new row has
  have key : (∀ y, y ∈ ls ↔ y = z ∨ (y ∈ v s ∧ y.id ≠ x.id)) ∧ (allV (updF v s ls) 16).length = ps'.length := by
    have hlen := allV_upd v s ls 16
    rw [if_pos hs, if_pos hs, h.n] at hlen
    rcases hp with ⟨hp1, hp2, rfl⟩ | ⟨h1, h2, _⟩ | ⟨h1, h2, rfl⟩
    · have hlp : (v s)[p]? = some (v s)[p] := List.getElem?_eq_getElem hp1
      have hpid : (v s)[p].id = x.id := idn_inj (hidv _ (List.mem_of_getElem? hlp)) hid (by rw [← idF_at (v s) p _ hlp]; exact hp2)
      have huniq : ∀ (i : Nat) (y : Vt), (v s)[i]? = some y → y.id = x.id → i = p := fun i y hy e => by
        have hi := (List.getElem?_eq_some_iff.1 hy).1
        have e1 : idF (v s) i = idF (v s) p := by rw [idF_at (v s) i y hy, e, hp2]
        rcases Nat.lt_trichotomy i p with h9 | h9 | h9
        · have := ht.srt i p h9 hp1; omega
        · exact h9
        · have := ht.srt p i h9 hi; omega
      refine ⟨fun y => ⟨fun hy => ?_, fun hy => ?_⟩, ?_⟩
      · obtain ⟨i, hi⟩ := List.mem_iff_getElem?.1 hy
        by_cases e : p = i
        · subst e; rw [List.getElem?_set_self hp1] at hi; cases hi; exact Or.inl rfl
        · rw [List.getElem?_set_ne e] at hi
          exact Or.inr ⟨List.mem_of_getElem? hi, fun e2 => e (huniq i y hi e2).symm⟩
      · rcases hy with rfl | ⟨hy, hne⟩
        · exact List.mem_iff_getElem?.2 ⟨p, List.getElem?_set_self hp1⟩
        · obtain ⟨i, hi⟩ := List.mem_iff_getElem?.1 hy
          have e : p ≠ i := fun e => by subst e; rw [hlp] at hi; cases hi; exact hne hpid
          exact List.mem_iff_getElem?.2 ⟨i, by rw [List.getElem?_set_ne e]; exact hi⟩
      · rw [List.length_set] at hlen
        obtain ⟨_, _, u, hu, _⟩ := h.a s hs _ (List.mem_of_getElem? hlp)
        rcases hl with ⟨_, h2⟩ | ⟨h2, _⟩
        · omega
        · exact absurd hpid (h2 _ hu)
    · exact absurd ⟨h1, h2⟩ hroom
    · refine ⟨fun y => ⟨fun hy => ?_, fun hy => ?_⟩, ?_⟩
      · rcases List.mem_append.1 hy with hy | hy
        · have hy := List.mem_of_mem_take hy
          exact Or.inr ⟨hy, fun e => by
            obtain ⟨i, hi, e2⟩ := List.getElem_of_mem hy
            exact h1 ⟨i, hi, by rw [idF_at (v s) i y (by rw [List.getElem?_eq_getElem hi, e2]), e]⟩⟩
        · rcases List.mem_cons.1 hy with rfl | hy
          · exact Or.inl rfl
          · have hy := List.mem_of_mem_drop hy
            exact Or.inr ⟨hy, fun e => by
              obtain ⟨i, hi, e2⟩ := List.getElem_of_mem hy
              exact h1 ⟨i, hi, by rw [idF_at (v s) i y (by rw [List.getElem?_eq_getElem hi, e2]), e]⟩⟩
      · rcases hy with rfl | ⟨hy, _⟩
        · exact List.mem_append_right _ List.mem_cons_self
        · rw [← List.take_append_drop p (v s)] at hy
          rcases List.mem_append.1 hy with hy | hy
          · exact List.mem_append_left _ hy
          · exact List.mem_append_right _ (List.mem_cons_of_mem _ hy)
      · have e2 : ((v s).take p ++ z :: (v s).drop p).length = (v s).length + 1 := by
          rw [List.length_append, List.length_cons, List.length_take, List.length_drop]; have := hbi.1; omega
        rw [e2] at hlen
        rcases hl with ⟨⟨q, hq, hqe⟩, _⟩ | ⟨_, h3⟩
        · exact absurd hqe (hth.1 h1 q hq)
        · omega
  refine ⟨fun k hk y hy => ?_, fun q hq => ?_, key.2⟩
  · by_cases e : k = s
    · subst e
      rw [updF_same] at hy
      rcases (key.1 y).1 hy with rfl | ⟨hy, hne⟩
      · exact ⟨by rw [hzid]; exact hid, by rw [hzid]; exact hsh, x, (hm _).2 (Or.inl (by rw [hzid])), hz.symm⟩
      obtain ⟨h1, h2, u, hu, hc⟩ := h.a k hk y hy
      exact ⟨h1, h2, u, (hm _).2 (Or.inr ⟨hu, hne⟩), hc⟩
    rw [updF_ne _ _ e] at hy
    obtain ⟨h1, h2, u, hu, hc⟩ := h.a k hk y hy
    exact ⟨h1, h2, u, (hm _).2 (Or.inr ⟨hu, fun e3 => e (by have e3 : y.id = x.id := e3; rw [e3, hsh] at h2; omega)⟩), hc⟩
  rcases (hm q).1 hq with rfl | ⟨hq, hne⟩
  · exact ⟨s, hs, z, by rw [updF_same]; exact (key.1 z).2 (Or.inl rfl), hzid⟩
  obtain ⟨k, hk, y, hy, ey⟩ := h.b q hq
  refine ⟨k, hk, y, ?_, ey⟩
  by_cases e : k = s
  · subst e
    rw [updF_same]; exact (key.1 y).2 (Or.inr ⟨hy, by rw [ey]; exact hne⟩)
  rw [updF_ne _ _ e]; exact hy
def cntC (v : Nat → List Vt) : List Value := (List.range 16).map fun i => .int .i64 ((v i).length : Int)
end Go.Proofs.Ytmjfnpmnhehnkaa
namespace Go.Proofs.Ytmjfnpmnhehnkaa
open Go.RowKit
theorem MB.kt {w w' : World} {b B : Nat} {ps : List (List UInt8 × Vt)} (h : MB w b ps) (k : w.grownBy w' (some b)) (hB : B ≤ b) : Kt [] B w w' := by
  obtain ⟨es, c, h1, _⟩ := h.ex
  have hb := (Array.getElem?_eq_some_iff.1 h1).1
  refine ⟨(Below.refl B w).grown k (by omega) (fun g hg => by cases hg; exact hB), fun i cs t fr hi _ => ?_⟩
  have hl := (Array.getElem?_eq_some_iff.1 hi).1
  rw [k.block i hl (fun e => by cases e; rw [h1] at hi; cases hi)]; exact hi
theorem SS.kts {S : List Nat} {B' : Nat} {w w' : World} {B M : Nat} {m n : Int} {p : Nat → Pa} {D : Nat → Nat} {r : Nat → Value} {v : Nat → List Vt} (h : SS w B M m n p D r v) (k : Kt S B' w w') (h0 : 115 ∉ S) (h1 : 169 ∉ S) (h2 : 36 ∉ S) (h3 : 5 ∉ S) : SS w' B M m n p D r v := ⟨k.bk h.blk h0, h.ts.kts k h1 h2 h3, h.ok, h.mok⟩
structure KI (w0 w : World) (M : Nat) (D : Nat → Nat) (r : Nat → Value) (v : Nat → List Vt) (ps : List (List UInt8 × Vt)) (mb g5 : Nat) : Prop where
  ss : SS w w0.heap.size M 0 1 (newP 0 1) D r v
  mp : MB w mb ps
  cnt : Bk w g5 66 (cntC v).toArray
  tv : ∀ q, q ∈ ps → TVN w q.2
  rel : KRel v ps
  ex : Ex w0 w
  lm : w0.heap.size ≤ mb
  lg : w0.heap.size ≤ g5
theorem KI.ext {w0 w w' : World} {M : Nat} {D : Nat → Nat} {r : Nat → Value} {v : Nat → List Vt} {ps : List (List UInt8 × Vt)} {mb g5 : Nat} (h : KI w0 w M D r v ps mb g5) (k : Ex w w') : KI w0 w' M D r v ps mb g5 :=
  ⟨h.ss.ext k, h.mp.ext (k.block mb h.mp.lt), h.cnt.ext k, fun q hq => (h.tv q hq).ext k, h.rel, Ex.trans h.ex k, h.lm, h.lg⟩
theorem KI.tc {w0 w w' : World} {M : Nat} {D : Nat → Nat} {r : Nat → Value} {v : Nat → List Vt} {ps : List (List UInt8 × Vt)} {mb g5 s : Nat} (h : KI w0 w M D r v ps mb g5) (hs : s < 16) (k : Tc (D s) (r s).ownBlock w w') : MB w' mb ps ∧ Bk w' g5 66 (cntC v).toArray ∧ (∀ q, q ∈ ps → TVN w' q.2) ∧ Ex w0 w' := by
  have ht := h.ss.ts.tb s hs
  refine ⟨h.mp.ext (k.block mb h.mp.lt (fun e => ?_) (fun e => ?_)), k.kt9 ht h.cnt (by decide) (by decide), fun q hq => (h.tv q hq).tc9 k ht, k.ex9 ht h.ex (h.ss.ts.lo s hs)⟩
  · obtain ⟨es, c, h1, _⟩ := h.mp.ex
    have h2 := ht.blk
    unfold Bk at h2; rw [← e, h1] at h2; cases h2
  rcases ht.row.blk with h3 | ⟨gb, h3, _, _, cs, hb⟩
  · rw [h3] at e; cases e
  rw [h3] at e; cases e
  obtain ⟨es, c, h1, _⟩ := h.mp.ex
  unfold Bk at hb; rw [h1] at hb; cases hb
def rkK (y : Vt) : Rk := ⟨1, 0, 0, 0, y, none, 0, []⟩
theorem built_rkK (y : Vt) (h : y.Ok) : Try.prog.built 39 [(0, .int .i64 1), (4, y.V)] = some (rkK y).C.toArray := by
  obtain ⟨id, gen, pin, sec, lim, used, own, gone, wiped⟩ := y
  obtain ⟨id0, id1, id2, id3, rfl⟩ := len4 h.idN
  obtain ⟨_, _, _, _, _, _, _, _, _, _, _, _, _, _, _, _, rfl⟩ := len16 h.pinN
  obtain ⟨_, _, _, _, _, _, _, _, _, _, _, _, _, _, _, _, rfl⟩ := len16 h.ownN
  kernel_rfl
def GV9 (z : Value) (w : World) : Prop := ∃ y : Vt, z = y.V ∧ TVN w y ∧ y.ct.right = true
def FV9 (cs : Array Value) (w : World) : Prop := ∃ y : Vt, cs = y.C.toArray ∧ TVN w y ∧ y.ct.right = true
theorem GV9.ext : ∀ v a b, GV9 v a → Ex a b → GV9 v b := fun _ _ _ ⟨y, h1, h2, h3⟩ k => ⟨y, h1, h2.ext k, h3⟩
theorem FV9.ext : ∀ v a b, FV9 v a → Ex a b → FV9 v b := fun _ _ _ ⟨y, h1, h2, h3⟩ k => ⟨y, h1, h2.ext k, h3⟩
end Go.Proofs.Ytmjfnpmnhehnkaa
namespace Go.Proofs.Ytmjfnpmnhehnkaa
open Go.RowKit
section
variable {α : Type} (C : α → List Value) (sz : Nat)
theorem gflat_len : ∀ (l : List α) (_ : ∀ x ∈ l, (C x).length = sz), (l.flatMap C).length = l.length * sz
 | [], _ => by simp
 | x :: r, H => by rw [List.flatMap_cons, List.length_append, gflat_len r (fun y hy => H y (List.mem_cons_of_mem _ hy)), H x List.mem_cons_self, List.length_cons, Nat.add_mul, Nat.one_mul]; omega
theorem gflat_at : ∀ (l : List α) (_ : ∀ x ∈ l, (C x).length = sz) (i j : Nat) (x : α), l[i]? = some x → j < sz → (l.flatMap C)[i * sz + j]? = (C x)[j]?
 | [], _, _, _, _, h, _ => by simp at h
 | y :: r, H, 0, j, x, h, hj => by
  obtain rfl : y = x := by simpa using h
  rw [List.flatMap_cons, Nat.zero_mul, Nat.zero_add, List.getElem?_append_left (by rw [H y List.mem_cons_self]; exact hj)]
 | y :: r, H, i + 1, j, x, h, hj => by
  have hy := H y List.mem_cons_self
  have e : (i + 1) * sz + j = sz + (i * sz + j) := by rw [Nat.add_mul, Nat.one_mul]; omega
  rw [List.flatMap_cons, e, List.getElem?_append_right (by rw [hy]; omega), hy, Nat.add_sub_cancel_left]
  exact gflat_at r (fun z hz => H z (List.mem_cons_of_mem _ hz)) i j x (by simpa using h) hj
theorem gflat_rd {w : World} {ad : Option Addr} {l : List α} (hp : 0 < sz) (H : ∀ x ∈ l, (C x).length = sz) (h : 0 < l.length → ∃ a o, ad = some ⟨a, o, none⟩ ∧ a < w.heap.size ∧ ∀ (i : Nat) (x : α), l[i]? = some x → w.rangeAt a (o + i * sz) (C x)) : Rd w ad l.length sz (l.flatMap C) := by
 refine ⟨gflat_len C sz l H, fun h0 => ?_⟩
 obtain ⟨a, o, e, hl, hc⟩ := h h0
 refine ⟨a, o, e, hl, fun j u hu => ?_⟩
 have hj := (List.getElem?_eq_some_iff.1 hu).1
 rw [gflat_len C sz l H] at hj
 have hi : j / sz < l.length := Nat.div_lt_of_lt_mul (by rw [Nat.mul_comm]; exact hj)
 have hm := Nat.mod_lt j hp
 have hx : l[j / sz]? = some l[j / sz] := List.getElem?_eq_getElem hi
 have e2 : j / sz * sz + j % sz = j := by rw [Nat.mul_comm]; exact Nat.div_add_mod j sz
 rw [← e2, gflat_at C sz l H _ _ _ hx hm] at hu
 have := hc _ _ hx _ _ hu
 rw [Nat.add_assoc, e2] at this; exact this
theorem gflat_back {w : World} {ad : Option Addr} {l : List α} (H : ∀ x ∈ l, (C x).length = sz) (h : Rd w ad l.length sz (l.flatMap C)) : 0 < l.length → ∃ a o, ad = some ⟨a, o, none⟩ ∧ a < w.heap.size ∧ ∀ (i : Nat) (x : α), l[i]? = some x → w.rangeAt a (o + i * sz) (C x) := fun h0 => by
 obtain ⟨a, o, e, hl, hc⟩ := h.read h0
 refine ⟨a, o, e, hl, fun i x hx j u hu => ?_⟩
 have hj : j < sz := by
  have := (List.getElem?_eq_some_iff.1 hu).1
  rw [H x (List.mem_of_getElem? hx)] at this; exact this
 rw [Nat.add_assoc]
 exact hc _ _ (by rw [gflat_at C sz l H i j x hx hj]; exact hu)
end
theorem wp_bs1 {o : Oper} {a : Act} {w : World} {K : Act → World → Prop} {Q : Exit → Act → World → Prop} (t e : TypeId) (z : Value) (sz bytes : Nat) (y : Operand) (C : List Value) (ho : o.op = .buildSlice t 1 #[(0, y)]) (hu : Try.prog.underlying t = some (.slice e))
  (hinfo : (Try.prog.info? e).map (fun i => (i.zero, i.size, i.bytes)) = some (some z, sz, bytes)) (hz : z.cells.size = sz) (hp : 0 < sz) (hs : sz ≤ 1000) (hC : C.length = sz) (hy : a.eval y = .agg C.toArray)
  (hk : K (a.put o.dst (.slice (some ⟨w.heap.size, 0, none⟩) 1 1)) (w.alloc (.cells C.toArray e))) : o.wp Try.prog a w K Q := by
 obtain ⟨i0, hi0, hz0, hz1, hz2⟩ := info_parts hinfo
 refine wp_buildSlice t e 1 #[(0, y)] ho C.toArray i0 z hu hi0 hz0 (by rw [hz1]; omega) (by rw [hz1]; omega) ?_ hk
 have h := Great.fill_whole (s := sz) hp [.agg C.toArray] ((Array.range (1 * sz)).map (z.cells[· % z.cells.size]!)) (fun v hv => by rw [List.mem_singleton.1 hv]; show C.toArray.size = sz; simpa using hC) (by simp)
 rw [hz1]
 have e1 : ((#[(0, y)] : Array (Nat × Operand)).map fun x => (x.1, a.eval x.2)).toList = ([Value.agg C.toArray].zipIdx 0).map fun x => (x.2, x.1) := by simp [hy]
 refine (congrArg _ e1).trans (h.trans ?_)
 simp [Value.cells]
theorem within_in (c lo hi : Int) (hc : -9223372036854775808 ≤ c ∧ c ≤ 9223372036854775807) (h0 : -1 ≤ lo) (a1 : lo ≤ c) (a2 : c ≤ hi) (h2 : hi ≤ 10000000) (w : World) :
  Calls Try.prog 20 #[.int .i64 c, .int .i64 lo, .int .i64 hi] w (fun e w' => e = .returned (.int .i64 c) ∧ w' = w) := by
 go_enter Try.func20, Try.ntmps20
 go_wp2_with fail
 go_ret
 trivial
def idV (i : Nat) : List UInt8 := [UInt8.ofNat i, 7, 0, 0]
theorem id_val (i : Nat) (hi : i < 256) (w : World) : Calls Try.prog 32 #[.int .i64 (i : Int)] w (fun e w' => e = .returned (digV (idV i)) ∧ Ex w w') := by
 have CW := Hi (fun w1 => within_in (i : Int) 0 255 (by omega) (by omega) (by omega) (by omega) (by omega) w1)
 have HX : Hid ((((UInt8.ofNat i).toNat : Nat) : Int) = (i : Int)) := Hi (by rw [UInt8.toNat_ofNat_of_lt' (by show i < 256; exact hi)])
 have HC : Hid (IntKind.u8.wrap (i : Int) = (i : Int)) := Hi (show (i : Int) % 256 = (i : Int) from Int.emod_eq_of_lt (by omega) (by omega))
 go_enter Try.func32, Try.ntmps32
 go_wp2_with ((with_reducible refine so0 ?_ ?_); (focus rfl))
 refine (CW.out _).mono ?_
 rintro e w2 ⟨rfl, rfl⟩
 clear CW
 go_wp2_with ((with_reducible refine so0 ?_ ?_); (focus rfl))
 refine at9 (by go_simp) fun K0 hK => wp_build _ _ rfl _ ((show Try.prog.built 32 [(0, .int .u8 (i : Int)), (1, .int .u8 7)] = some (Lib.byteCells (idV i)).toArray from by rw [← HX.out]; exact built_id (UInt8.ofNat i))) (hK _ _ ?_)
 clear hK
 go_wp2_with ((with_reducible refine so0 ?_ ?_); (focus rfl))
 refine at9 (by go_simp) fun K0 hK => st_new _ _ w.heap.size (idV i) _ rfl rfl rfl (Bk.new rfl _ _) rfl Try.sizeId (fun w3 hd ho => hK _ _ ?_)
 clear hK
 have X := ho.below w.heap.size (Nat.le_refl _) w (Ex.alloc w _)
 clear ho
 go_wp2_with fail
 exact bodyPost_ret (res_dig rfl _ _ w.heap.size rfl hd Try.underlying32 rfl Try.sizeId) rfl ⟨rfl, X⟩
def numsS (s : Int) (k : Nat) : List Nat := (List.range k).filter (fun i => decide (Sm.shV (idV i) = s))
def idsS (s : Int) (k : Nat) : List (List UInt8) := (numsS s k).map idV
theorem numsS_in (s : Int) (k : Nat) (h : Sm.shV (idV k) = s) : numsS s (k + 1) = numsS s k ++ [k] := by
 unfold numsS
 rw [List.range_succ, List.filter_append, List.filter_cons_of_pos (by simpa using h)]; rfl
theorem numsS_out (s : Int) (k : Nat) (h : ¬ Sm.shV (idV k) = s) : numsS s (k + 1) = numsS s k := by
 unfold numsS
 rw [List.range_succ, List.filter_append, List.filter_cons_of_neg (by simpa using h)]
 simp
theorem numsS_len (s : Int) (k : Nat) : (numsS s k).length ≤ k := by
 unfold numsS
 exact Nat.le_trans (List.length_filter_le _ _) (by simp)
theorem idsS_len (s : Int) (k : Nat) : (idsS s k).length ≤ k := by
 unfold idsS; rw [List.length_map]; exact numsS_len s k
theorem idsS_four {s : Int} {k : Nat} : ∀ x ∈ idsS s k, (Lib.byteCells x).length = 4 := fun x hx => by
 obtain ⟨i, _, rfl⟩ := List.mem_map.1 hx
 rfl
def IRow (w : World) (B : Nat) (v : Value) (xs : List (List UInt8)) : Prop := w.ownsRow B 32 4 v xs.length (xs.flatMap Lib.byteCells)
theorem Try.infoID4 : (Try.prog.info? 32).map (fun i => (i.zero, i.size, i.bytes)) = some (some (digV [0, 0, 0, 0]), 4, 4) := by kernel_rfl
def IdsPost (s : Int) (w : World) (e : Ending) (w' : World) : Prop := ∃ v, e = .returned v ∧ IRow w' w.heap.size v (idsS s 256) ∧ Ex w w'
theorem ids_any (s : Int) (hs : i64 s) (w : World) : Calls Try.prog 67 #[.int .i64 s] w (IdsPost s w) := by
 have HS := Hi hs
 clear hs
 go_enter Try.func67, Try.ntmps67
 go_wp2_with (first | (with_reducible refine stop_bs (t := 127) ?_) | (with_reducible refine stop_app ?_))
 go_loopw [3, 4] (fun v i wr => ∃ (k : Nat), k ≤ 256 ∧ i = .int .i64 k ∧ Hid (IRow wr w.heap.size v (idsS s k)) ∧ Hid (Ex w wr)) (fun _ i _ => 256 - (intOf i).toNat)
 case atStart => exact ⟨0, by omega, rfl, Hi (World.ownsRow_nil _ _ _ _), Hi (Ex.refl _)⟩
 obtain ⟨k, hk, rfl, VR, BW⟩ := hrel
 by_cases hlt : k < 256
 rotate_left
 ·obtain rfl : k = 256 := by omega
  have q1 : ¬ ((256 : Nat) : Int) < 256 := by omega
  go_wp2_with fail
  go_ret
  exact ⟨_, rfl, VR.out, BW.out⟩
 have q0 : (0 : Int) ≤ (k : Int) := by omega
 have q1 : (k : Int) < 256 := by omega
 go_wp2_with (first | (with_reducible refine stop_bs (t := 127) ?_) | (with_reducible refine stop_app ?_))
 refine (id_val k hlt wr).mono ?_
 rintro e w2 ⟨rfl, x2⟩
 replace BW := Hi (Ex.trans BW.out x2)
 replace VR := Hi (x2.row VR.out)
 clear x2
 go_wp2_with (first | (with_reducible refine stop_bs (t := 127) ?_) | (with_reducible refine stop_app ?_))
 refine (Sm.rof_any (idV k) rfl w2).mono ?_
 rintro e w3 ⟨rfl, x3⟩
 have x3 : Ex w2 w3 := x3
 replace BW := Hi (Ex.trans BW.out x3)
 replace VR := Hi (x3.row VR.out)
 clear x3
 by_cases hz : Sm.shV (idV k) = s
 rotate_left
 ·have HN := Hi (numsS_out s k hz)
  generalize Sm.shV (idV k) = sh at *
  go_wp2_with (first | (with_reducible refine stop_bs (t := 127) ?_) | (with_reducible refine stop_app ?_))
  (first | (refine ⟨?_, ?measure⟩; (repeat apply Exists.intro); refine ⟨?rel, rfl⟩) | refine ⟨?rel, ?measure⟩)
  case rel => exact ⟨k + 1, by omega, by go_num, Hi (by have := VR.out; unfold idsS at this ⊢; rw [HN.out]; exact this), BW⟩
  case measure => simp [intOf]; omega
 have HN := Hi (numsS_in s k hz)
 have HS2 := Hi hz
 generalize Sm.shV (idV k) = sh at *
 subst hz
 go_wp2_with (first | (with_reducible refine stop_bs (t := 127) ?_) | (with_reducible refine stop_app ?_))
 refine (id_val k hlt w3).mono ?_
 rintro e w4 ⟨rfl, x4⟩
 replace BW := Hi (Ex.trans BW.out x4)
 replace VR := Hi (x4.row VR.out)
 clear x4
 go_wp2_with (first | (with_reducible refine stop_bs (t := 127) ?_) | (with_reducible refine stop_app ?_))
 refine at9 (by go_simp) fun K0 hK => wp_bs1 127 32 (digV [0, 0, 0, 0]) 4 4 _ (Lib.byteCells (idV k)) rfl Try.underlying127 Try.infoID4 rfl (by decide) (by decide) rfl rfl (hK _ _ ?_)
 clear hK
 have xa := Ex.alloc w4 (.cells (Lib.byteCells (idV k)).toArray 32)
 have NB := Hi (Bk.new (g := w4.heap.size) (w := w4) rfl 32 (Lib.byteCells (idV k)).toArray)
 replace BW := Hi (Ex.trans BW.out xa)
 replace VR := Hi (xa.row VR.out)
 generalize hw5 : w4.alloc (.cells (Lib.byteCells (idV k)).toArray 32) = w5 at *
 obtain ⟨g2, hg⟩ : ∃ g, g = w4.heap.size := ⟨_, rfl⟩
 rw [← hg] at NB ⊢
 clear hw5 hg xa
 have MR := Hi (Many.rd (n := 1) (sz := 4) ⟨g2, rfl, NB.out⟩ rfl)
 go_wp2_with (first | (with_reducible refine stop_bs (t := 127) ?_) | (with_reducible refine stop_app ?_))
 obtain ⟨adx, ex, nx, rx⟩ := MR.out
 cases ex
 have RX := Hi rx
 clear rx nx MR
 refine at9 (by go_simp) fun K0 hK => wp_rd _ _ 127 32 (digV [0, 0, 0, 0]) 4 4 rfl Try.underlying127 Try.infoID4 rfl (by decide) w.heap.size _ _ _ rfl VR.out BW.out.sz' _ 1 1 _ rfl RX.out (Nat.le_refl _) (fun h => by cases h) (fun u hu => byteCells_one hu) (by have := idsS_len sh k; omega) (by have := idsS_len sh k; omega) (fun v5 w6 r1 r2 => hK _ _ ?_)
 clear hK
 replace BW := Hi (show Ex w w6 from Below.trans (show Below w.heap.size w _ from BW.out) r2.below)
 replace VR : Hid (IRow w6 w.heap.size v5 (idsS sh (k + 1))) := Hi (by
  unfold IRow
  have e : idsS sh (k + 1) = idsS sh k ++ [idV k] := by unfold idsS; rw [HN.out, List.map_append]; rfl
  rw [e, List.length_append, List.flatMap_append]
  simpa using r1)
 clear r1 r2
 go_wp2_with (first | (with_reducible refine stop_bs (t := 127) ?_) | (with_reducible refine stop_app ?_))
 (first | (refine ⟨?_, ?measure⟩; (repeat apply Exists.intro); refine ⟨?rel, rfl⟩) | refine ⟨?rel, ?measure⟩)
 case rel => exact ⟨k + 1, by omega, by go_num, VR, BW⟩
 case measure => simp [intOf]; omega
end Go.Proofs.Ytmjfnpmnhehnkaa
