/- Un, Wg -/
import Derived.Test.YtmjfnpmnhehnkaaXba
namespace Go.Proofs.Ytmjfnpmnhehnkaa
open Go.RowKit
theorem doC_changed {c : Vc} {q : Qc} (hq : q.right = true) (hk : Kept q.id c) (h : (doC c q).2.2 = true) : (doC c q).1.right = true ∧ (doC c q).1.id = q.id := by
  have hf := (do_facts hq hk (v' := (doC c q).1) (r' := (doC c q).2.1) (b := (doC c q).2.2) rfl).kept
  rcases hf with h0 | h0
  rotate_left
  · exact h0
  exfalso
  have hK := do_kind hq hk
  have hge := Kept.gen hk
  generalize (doC c q).1 = x at h0 hK
  generalize (doC c q).2.1 = y at hK
  rw [h] at hK
  have hg : zeroVc.gen = 0 := rfl
  cases hK with
  | fresh ho hg2 =>
    have h2 := congrArg Vc.gen h0
    have h3 : (freshC c q).gen = c.gen + 1 := rfl
    omega
  | wrong ho hv hg2 =>
    have h2 := congrArg Vc.gen h0
    rw [(wrong_gen c).1] at h2
    have := right_gen hv
    omega
  | removed ho hv hg2 =>
    have h2 := congrArg Vc.gen h0
    have h3 : (goneC c.id c.gen false).gen = c.gen := rfl
    have := right_gen hv
    omega
def Home (v : Nat → List Vt) : Prop := ∀ i, i < 16 → ∀ x ∈ v i, Sm.shV x.id = (i : Int)
theorem Home.none {v : Nat → List Vt} (h : ∀ i, i < 16 → v i = []) : Home v := fun i hi x hx => by rw [h i hi] at hx; simp at hx
/-- what's under an ID -/
def Cur (vs : List Vt) (id : List UInt8) (c : Vc) : Prop := (c = zeroVc ∧ ∀ x ∈ vs, x.id ≠ id) ∨ ∃ x ∈ vs, x.ct = c ∧ x.id = id
/-- one put in the place of what had its ID -/
def Repl (vs ls : List Vt) (x : Vc) : Prop := ∀ c, c ∈ ls.map Vt.ct ↔ c = x ∨ (c ∈ vs.map Vt.ct ∧ c.id ≠ x.id)
structure Tidy (vs : List Vt) : Prop where
  srt : ∀ i j, i < j → j < vs.length → idF vs i < idF vs j
  idl : ∀ x ∈ vs, x.id.length = 4
  right : ∀ x ∈ vs, x.ct.right = true
  len : vs.length ≤ 4
theorem IM.tidy {w : World} {B M : Nat} {D : Nat → Nat} {r : Nat → Value} {v : Nat → List Vt} (h : IM w B M D r v) (hr : RightV v) {i : Nat} (hi : i < 16) : Tidy (v i) :=
  ⟨(h.ts.tb i hi).srt, fun x hx => by
    obtain ⟨j, hj, e⟩ := List.getElem_of_mem hx
    exact ((h.ts.tb i hi).row.ins j x (by rw [List.getElem?_eq_getElem hj, e])).ok.idN, fun x hx => by
    obtain ⟨j, hj, e⟩ := List.getElem_of_mem hx
    exact hr i hi j x (by rw [List.getElem?_eq_getElem hj, e]), (h.ts.tb i hi).len⟩
theorem Tidy.inj {vs : List Vt} (h : Tidy vs) {i j : Nat} (hi : i < vs.length) (hj : j < vs.length) (e : idF vs i = idF vs j) : i = j := by
  rcases Nat.lt_trichotomy i j with h1 | h1 | h1
  · have := h.srt i j h1 hj; omega
  · exact h1
  have := h.srt j i h1 hi; omega
theorem idF_get {vs : List Vt} {i : Nat} (hi : i < vs.length) : idF vs i = idn vs[i].id := idF_at vs i vs[i] (List.getElem?_eq_getElem hi)
theorem cur_of {vs : List Vt} (h : Tidy vs) {id : List UInt8} (hid : id.length = 4) {c : Vc} {b : Bool} (hg : GetDet vs (idn id) c b) : Cur vs id c ∧ (b = true ↔ c ≠ zeroVc) ∧ (c = zeroVc ∨ (c.right = true ∧ c.id = id)) := by
  cases b with
  | false =>
    refine ⟨Or.inl ⟨hg.2.2 rfl, fun x hx e => ?_⟩, ⟨(fun h => by cases h), fun h => absurd (hg.2.2 rfl) h⟩, Or.inl (hg.2.2 rfl)⟩
    obtain ⟨j, hj, e2⟩ := List.getElem_of_mem hx
    have := of_decide_eq_false hg.1.symm
    exact this ⟨j, hj, by rw [idF_get hj, e2, e]⟩
  | true =>
    obtain ⟨q, y, h1, h2, h3⟩ := hg.2.1 rfl
    have hm : y ∈ vs := List.mem_of_getElem? h1
    have hy : y.id = id := idn_inj (h.idl y hm) hid (by rw [← idF_at vs q y h1, h2])
    have hr := h.right y hm
    refine ⟨Or.inr ⟨y, hm, h3.symm, hy⟩, ⟨fun _ e => ?_, fun _ => rfl⟩, Or.inr ⟨by rw [h3]; exact hr, by rw [h3]; exact hy⟩⟩
    rw [h3] at e; rw [e] at hr; exact absurd hr (by decide)
theorem put_repl {vs ls : List Vt} {x : Vt} (h : Tidy vs) (hx : x.id.length = 4) (hr : x.ct.right = true) (hp : PutRel vs x ls) (hf : (∃ y ∈ vs, y.id = x.id) ∨ vs.length < 4) : Repl vs ls x.ct := by
  have at_id : ∀ (i : Nat) (hi : i < vs.length), idF vs i = idn x.id ↔ vs[i].id = x.id := fun i hi => by
    rw [idF_get hi]
    exact ⟨fun e => idn_inj (h.idl _ (List.getElem_mem hi)) hx e, fun e => by rw [e]⟩
  rcases hp with ⟨h1, _⟩ | ⟨_, p, z, _, hz, ⟨p1, p2, rfl⟩ | ⟨p1, p2, rfl⟩ | ⟨p1, p2, rfl⟩⟩
  · rw [hr] at h1; cases h1
  · intro c
    constructor
    · intro hc
      obtain ⟨y, hy, rfl⟩ := List.mem_map.1 hc
      obtain ⟨i, hi, e⟩ := List.getElem_of_mem hy
      by_cases hip : p = i
      · subst hip
        rw [List.getElem_set_self] at e
        exact Or.inl (by rw [← e, hz])
      rw [List.getElem_set_ne hip] at e
      rw [List.length_set] at hi
      refine Or.inr ⟨List.mem_map.2 ⟨y, e ▸ List.getElem_mem hi, rfl⟩, fun he => hip ?_⟩
      have he : y.id = x.id := he
      exact h.inj p1 hi (by rw [p2, (at_id i hi).2 (by rw [e, he])])
    rintro (rfl | ⟨hc, hne⟩)
    · exact List.mem_map.2 ⟨z, List.mem_iff_getElem.2 ⟨p, by rw [List.length_set]; exact p1, List.getElem_set_self _⟩, hz⟩
    obtain ⟨y, hy, rfl⟩ := List.mem_map.1 hc
    obtain ⟨i, hi, e⟩ := List.getElem_of_mem hy
    refine List.mem_map.2 ⟨y, List.mem_iff_getElem.2 ⟨i, by rw [List.length_set]; exact hi, ?_⟩, rfl⟩
    have hip : p ≠ i := fun e2 => by
      subst e2
      exact hne (show y.id = x.id by rw [← e]; exact (at_id p hi).1 p2)
    rw [List.getElem_set_ne hip, e]
  · exfalso
    rcases hf with ⟨y, hy, he⟩ | hf
    · obtain ⟨i, hi, e⟩ := List.getElem_of_mem hy
      exact p1 ⟨i, hi, (at_id i hi).2 (by rw [e, he])⟩
    omega
  intro c
  have hno : ∀ y ∈ vs, y.id ≠ x.id := fun y hy he => by
    obtain ⟨i, hi, e⟩ := List.getElem_of_mem hy
    exact p1 ⟨i, hi, (at_id i hi).2 (by rw [e, he])⟩
  have hm : ∀ y, y ∈ vs.take p ++ z :: vs.drop p ↔ y = z ∨ y ∈ vs := fun y => by
    rw [List.mem_append, List.mem_cons]
    have : y ∈ vs ↔ y ∈ vs.take p ∨ y ∈ vs.drop p := by rw [← List.mem_append, List.take_append_drop]
    rw [this]
    constructor
    · rintro (h | h | h)
      · exact Or.inr (Or.inl h)
      · exact Or.inl h
      · exact Or.inr (Or.inr h)
    · rintro (h | h | h)
      · exact Or.inr (Or.inl h)
      · exact Or.inl h
      · exact Or.inr (Or.inr h)
  constructor
  · intro hc
    obtain ⟨y, hy, rfl⟩ := List.mem_map.1 hc
    rcases (hm y).1 hy with rfl | hy
    · exact Or.inl hz
    exact Or.inr ⟨List.mem_map.2 ⟨y, hy, rfl⟩, hno y hy⟩
  rintro (rfl | ⟨hc, _⟩)
  · exact List.mem_map.2 ⟨z, (hm z).2 (Or.inl rfl), hz⟩
  obtain ⟨y, hy, rfl⟩ := List.mem_map.1 hc
  exact List.mem_map.2 ⟨y, (hm y).2 (Or.inr hy), rfl⟩
/-- a step, by what's under the ID -/
theorem istep_cur {v v' : Nat → List Vt} {s : Nat} {q : Qc} {y : Rc} (ht : Tidy (v s)) (hid : q.id.length = 4) (hq : q.right = true) (h : IStep v s q y v') :
    ∃ c, Cur (v s) q.id c ∧ Kept q.id c ∧
      (((doC c q).2.2 = false ∧ y = (doC c q).2.1 ∧ v' = v) ∨
       ((doC c q).2.2 = true ∧ c = zeroVc ∧ 4 ≤ (v s).length ∧ y = (repRt 13 q.id q.client q.num).ct ∧ v' = v) ∨
       ((doC c q).2.2 = true ∧ (c ≠ zeroVc ∨ (v s).length < 4) ∧ y = (doC c q).2.1 ∧ ∃ ls, v' = updF v s ls ∧ Repl (v s) ls (doC c q).1)) := by
  rcases h with ⟨h1, _⟩ | ⟨_, c, b, hg, h⟩
  · rw [hq] at h1; cases h1
  obtain ⟨h1, h2, h3⟩ := cur_of ht hid hg
  refine ⟨c, h1, h3, ?_⟩
  rcases h with h | ⟨a1, a2, a3, a4, a5⟩ | ⟨a1, a2, a3, x, ls, a4, a5, a6⟩
  · exact Or.inl h
  · refine Or.inr (Or.inl ⟨a1, ?_, a3, a4, a5⟩)
    cases hc : decide (c = zeroVc) with
    | true => exact of_decide_eq_true hc
    | false => rw [h2.2 (of_decide_eq_false hc)] at a2; cases a2
  obtain ⟨r1, r2⟩ := doC_changed hq h3 a1
  refine Or.inr (Or.inr ⟨a1, a2.imp (fun h => h2.1 h) id, a3, ls, a6, ?_⟩)
  rw [← a4] at r1 r2 ⊢
  have r2 : x.id = q.id := r2
  refine put_repl ht (by rw [r2]; exact hid) r1 a5 ?_
  rcases a2 with hb | hb
  · rcases h1 with ⟨h0, _⟩ | ⟨z, hz, _, hz2⟩
    · exact absurd h0 (h2.1 hb)
    exact Or.inl ⟨z, hz, by rw [hz2, r2]⟩
  exact Or.inr hb
theorem Home.step {v : Nat → List Vt} {s : Nat} {ls : List Vt} {x : Vc} (h : Home v) (hr : Repl (v s) ls x) (hx : Sm.shV x.id = (s : Int)) : Home (updF v s ls) := fun i hi y hy => by
  by_cases e : i = s
  · subst e
    rw [updF_same] at hy
    rcases (hr y.ct).1 (List.mem_map.2 ⟨y, hy, rfl⟩) with h1 | ⟨h1, _⟩
    · rw [show y.id = x.id from congrArg Vc.id h1]; exact hx
    · obtain ⟨z, hz, e2⟩ := List.mem_map.1 h1
      rw [← show z.id = y.id from congrArg Vc.id e2]; exact h i hi z hz
  · rw [updF_ne _ _ e] at hy; exact h i hi y hy
end Go.Proofs.Ytmjfnpmnhehnkaa
namespace Go.Proofs.Ytmjfnpmnhehnkaa
open Go.RowKit
def PStep (xs : List Vt) (q : Qc) (y : Rc) (xs' : List Vt) : Prop :=
 (q.right = false ∧ y = errRc ∧ xs' = xs) ∨ (q.right = true ∧ ∃ (x : Vt) (k : Int), GetP xs q.id x k ∧ Kept q.id x.ct ∧
  (((doC x.ct q).2.2 = false ∧ y = (doC x.ct q).2.1 ∧ xs' = xs) ∨
  ((doC x.ct q).2.2 = true ∧ k < 0 ∧ 4 ≤ cntS xs q.id ∧ y = (repRt 13 q.id q.client q.num).ct ∧ xs' = xs) ∨
  ((doC x.ct q).2.2 = true ∧ y = (doC x.ct q).2.1 ∧ ∃ z : Vt, z.ct = (doC x.ct q).1 ∧ ((k < 0 ∧ cntS xs q.id < 4 ∧ xs' = xs ++ [z]) ∨ ∃ j : Nat, k = (j : Int) ∧ j < xs.length ∧ xs' = xs.set j z))))
def PDoPost (w0 : World) (P : Nat) (rv : Value) (xs : List Vt) (q : Qt) (w : World) (e : Ending) (w' : World) : Prop := ∃ (y : Rt) (rv' : Value) (xs' : List Vt), e = .returned y.V ∧ y.Ok ∧ PN w' w.heap.size y.sec ∧ PB w0 w' P rv' xs' ∧ PStep xs q.ct y.ct xs' ∧ Md P w w' ∧ Lies w rv rv'
theorem Md.then {P : Nat} {w a b : World} (h : Md P w a) (k : Below w.heap.size a b) (hP : P < w.heap.size) : Md P w b :=
 ⟨fun B hB x hx => Below.trans (h.below B hB x hx) (k.mono (by omega)), fun i hi hl => (k.block i hl).trans (h.other i hi hl), Nat.le_trans h.size k.size⟩
theorem PB.kt {S : List Nat} {w0 w w' : World} {P : Nat} {rv : Value} {xs : List Vt} (h : PB w0 w P rv xs) (k : Kt S w0.heap.size w w') (h1 : 134 ∉ S) (h2 : 36 ∉ S) (h3 : 5 ∉ S) : PB w0 w' P rv xs :=
 ⟨k.bk h.blk h1, k.row h.row h2, fun i x hx => ⟨(h.ins i x hx).ok, (h.ins i x hx).sec.kt k h3, (h.ins i x hx).len⟩, h.lo, Nat.le_trans h.sz k.size⟩
theorem getp_px {w0 w : World} {P : Nat} {rv : Value} {xs : List Vt} (h : PB w0 w P rv xs) {id : List UInt8} {x : Vt} {k : Int} (hg : GetP xs id x k) : PX w0 w x := by
 rcases hg with ⟨_, rfl, _⟩ | ⟨j, _, hx, _⟩
 ·exact ⟨zeroVt_ok, Or.inr (nilB_pn _ _), by decide⟩
 exact h.ins j x hx
theorem getp_kept {xs : List Vt} (hr : ∀ x ∈ xs, x.ct.right = true) {id : List UInt8} {x : Vt} {k : Int} (hg : GetP xs id x k) : Kept id x.ct := by
 rcases hg with ⟨_, rfl, _⟩ | ⟨j, _, hx, hid⟩
 ·exact Or.inl rfl
 exact Or.inr ⟨hr x (List.mem_of_getElem? hx), hid⟩
theorem PX.vi {w0 w : World} {x : Vt} (h : PX w0 w x) (hs : w0.heap.size ≤ w.heap.size) : VI w x := ⟨h.ok, h.sec.inn hs⟩
theorem own_sl {w : World} {B : Nat} {e : TypeId} {sz n : Nat} {v : Value} {xs : List Value} (h : w.ownsRow B e sz v n xs) : v.oneCell' = true ∧ ∃ ad cap, v = .slice ad n cap := by
 obtain ⟨ad, cap, rfl, _⟩ := own_rd h
 exact ⟨rfl, ad, cap, rfl⟩
/-- the map anew, the answer, where it goes -/
structure F12 (w0 w : World) (P B g8 : Nat) (r : Rt) (rv : Value) (xs : List Vt) (wz : World) : Prop where
 blk : Bk wz P 134 #[rv]
 row : wz.ownsRow w.heap.size 36 42 rv xs.length (xs.flatMap Vt.C)
 ins : ∀ x ∈ xs, PX w0 wz x
 rb : RB wz g8 r
 rs : PN wz w.heap.size r.sec
 r0 : RB wz B zeroRt
 md : Md P w wz
theorem PX.kt {S : List Nat} {w0 w w' : World} {x : Vt} (h : PX w0 w x) (k : Kt S w0.heap.size w w') (hu : 5 ∉ S) : PX w0 w' x := ⟨h.ok, h.sec.kt k hu, h.len⟩
theorem Kt.less {S : List Nat} {B B' : Nat} {w w' : World} (h : Kt S B w w') (hB : B' ≤ B) : Kt S B' w w' := ⟨h.below.mono hB, h.typ⟩
/-- vaults alone are turned, and what's new; the row is another one -/
theorem F12.kt {w0 w : World} {P B g8 : Nat} {r : Rt} {rv rv' : Value} {xs xs' : List Vt} {wz w' : World} (h : F12 w0 w P B g8 r rv xs wz) (k : Kt [36] w.heap.size wz w') (hP : P < w.heap.size) (h0 : w0.heap.size ≤ w.heap.size) (hb : Bk w' P 134 #[rv']) (hr : w'.ownsRow w.heap.size 36 42 rv' xs'.length (xs'.flatMap Vt.C)) (hx : ∀ x ∈ xs', x ∈ xs ∨ PX w0 wz x) : F12 w0 w P B g8 r rv' xs' w' :=
 ⟨hb, hr, fun x hi => by
  rcases hx x hi with hm | hp
  ·exact (h.ins x hm).kt (k.less h0) (by decide)
  ·exact hp.kt (k.less h0) (by decide), ⟨h.rb.1, k.bk h.rb.2 (by decide)⟩, h.rs.kt k (by decide), ⟨h.r0.1, k.bk h.r0.2 (by decide)⟩, h.md.then k.below hP⟩
theorem F12.ext {w0 w : World} {P B g8 : Nat} {r : Rt} {rv : Value} {xs : List Vt} {wz w' : World} (h : F12 w0 w P B g8 r rv xs wz) (k : Ex wz w') (hP : P < w.heap.size) (h0 : w0.heap.size ≤ w.heap.size) : F12 w0 w P B g8 r rv xs w' :=
 h.kt (k.kt h.md.size) hP h0 (h.blk.ext k) (k.row h.row) (fun _ hx => Or.inl hx)
theorem F12.pb {w0 w : World} {P B g8 : Nat} {r : Rt} {rv : Value} {xs : List Vt} {wz : World} (h : F12 w0 w P B g8 r rv xs wz) (lo : w0.heap.size ≤ P) (h0 : w0.heap.size ≤ w.heap.size) : PB w0 wz P rv xs :=
 ⟨h.blk, rown_less h.row h0, fun i x hx => h.ins x (List.mem_of_getElem? hx), lo, Nat.le_trans h0 h.md.size⟩
/-- the map's row is another one: the store -/
theorem F12.st {w0 w : World} {P B g8 : Nat} {r : Rt} {rv rv' : Value} {xs xs' : List Vt} {wz w' : World} (h : F12 w0 w P B g8 r rv xs wz) (lo : w0.heap.size ≤ P) (hb : Bk w' P 134 #[rv']) (ho : Only P wz w') (hr : wz.ownsRow w.heap.size 36 42 rv' xs'.length (xs'.flatMap Vt.C)) (hx : ∀ x ∈ xs', PX w0 wz x) : F12 w0 w P B g8 r rv' xs' w' := by
 have k : Kt [134] w0.heap.size wz w' := Kt.md ho.md lo h.blk (List.mem_singleton.2 rfl)
 exact ⟨hb, k.row hr (by decide), fun x hi => (hx x hi).kt k (by decide), ⟨h.rb.1, k.bk h.rb.2 (by decide)⟩, h.rs.kt k (by decide), ⟨h.r0.1, k.bk h.r0.2 (by decide)⟩, h.md.trans ho.md⟩
/-- a vault is stored into the row -/
theorem F12.set {w0 w : World} {P B g8 : Nat} {r : Rt} {rv : Value} {xs : List Vt} {wz : World} (h : F12 w0 w P B g8 r rv xs wz) (hP : P < w.heap.size) (h0 : w0.heap.size ≤ w.heap.size) (p : Nat) (hp : p < xs.length) : ∃ (g cap : Nat) (C : List Value), rv = .slice (some ⟨g, 0, none⟩) xs.length cap ∧ Bk wz g 36 C.toArray ∧ p * 42 + 42 ≤ C.length ∧
  ∀ z, PX w0 wz z → ∀ w', Bk w' g 36 (C.take (p * 42) ++ z.C ++ C.drop (p * 42 + z.C.length)).toArray → Only g wz w' → F12 w0 w P B g8 r rv (xs.set p z) w' := by
 obtain ⟨g, cap, C, hv, hB, hb, hl, _, hset⟩ := own_store h.row p hp
 refine ⟨g, cap, C, hv, hb, hl, fun z hz w' hd ho => ?_⟩
 have hk : Kt [36] w.heap.size wz w' := Kt.md ho.md hB hb (List.mem_singleton.2 rfl)
 refine h.kt hk hP h0 (hk.bk h.blk (by decide)) ?_ (fun x hx => ?_)
 ·rw [vflat_set (fun i x hx => (h.ins x (List.mem_of_getElem? hx)).ok) p hp z hz.ok, List.length_set]
  exact hset z.C (Vt.len hz.ok) w' hd
 rcases List.mem_or_eq_of_mem_set hx with hm | rfl
 ·exact Or.inl hm
 exact Or.inr hz
structure G12 (w0 w : World) (P B g8 : Nat) (r : Rt) (rv : Value) (wz : World) : Prop where
 blk : Bk wz P 134 #[rv]
 rb : RB wz g8 r
 rs : PN wz w.heap.size r.sec
 r0 : RB wz B zeroRt
 md : Md P w wz
theorem G12.st {w0 w : World} {P B g8 : Nat} {r : Rt} {rv rv' : Value} {xs' : List Vt} {wz w' : World} (h : G12 w0 w P B g8 r rv wz) (lo : w0.heap.size ≤ P) (hb : Bk w' P 134 #[rv']) (ho : Only P wz w') (hr : wz.ownsRow w.heap.size 36 42 rv' xs'.length (xs'.flatMap Vt.C)) (hx : ∀ x ∈ xs', PX w0 wz x) : F12 w0 w P B g8 r rv' xs' w' := by
 have k : Kt [134] w0.heap.size wz w' := Kt.md ho.md lo h.blk (List.mem_singleton.2 rfl)
 exact ⟨hb, k.row hr (by decide), fun x hi => (hx x hi).kt k (by decide), ⟨h.rb.1, k.bk h.rb.2 (by decide)⟩, h.rs.kt k (by decide), ⟨h.r0.1, k.bk h.r0.2 (by decide)⟩, h.md.trans ho.md⟩
def St12 (w0 w w10 : World) (P B g8 : Nat) (r : Rt) (rv : Value) (xs' : List Vt) (b : Bool) (wz : World) : Prop := (b = false → Ex w10 wz) ∧ (b = true → F12 w0 w P B g8 r rv xs' wz)
structure S11 (w0 w w10 : World) (P B g8 : Nat) (r : Rt) (rv1 : Value) (xs : List Vt) (z : Vt) (l : Array Bool) (f : Nat → Value) (wz : World) : Prop where
 pre : l.getD 7 false = false → Ex w10 wz
 e6 : l.getD 6 false = true → l.getD 7 false = false → ∃ g, f 6 = .slice (some ⟨g, 0, none⟩) 1 1 ∧ Bk wz g 36 z.C.toArray
 e7 : l.getD 7 false = true → l.getD 10 false = false → wz.ownsRow w.heap.size 36 42 (f 7) (xs ++ [z]).length ((xs ++ [z]).flatMap Vt.C) ∧ (∀ x ∈ xs ++ [z], PX w0 wz x) ∧ G12 w0 w P B g8 r rv1 wz
 fin : l.getD 10 false = true → ∃ rv, F12 w0 w P B g8 r rv (xs ++ [z]) wz
section
variable {w0 w w10 : World} {P B g8 : Nat} {r : Rt} {rv1 : Value} {xs : List Vt} {z : Vt} {l : Array Bool} {f : Nat → Value} {wz w' : World} {x : Value}
theorem S11.plain (h : S11 w0 w w10 P B g8 r rv1 xs z l f wz) (i : Nat) (hi : i ≠ 6 ∧ i ≠ 7 ∧ i ≠ 10) : S11 w0 w w10 P B g8 r rv1 xs z (l.setIfInBounds i true) (upd f i x) wz := by
 refine ⟨?_, ?_, ?_, ?_⟩
 ·rw [gset hi.2.1 false]; exact h.pre
 ·rw [gset hi.1 false, gset hi.2.1 false, upd_ne _ _ (Ne.symm hi.1)]; exact h.e6
 ·rw [gset hi.2.1 false, gset hi.2.2 false, upd_ne _ _ (Ne.symm hi.2.1)]; exact h.e7
 rw [gset hi.2.2 false]; exact h.fin
theorem S11.s6 (h : S11 w0 w w10 P B g8 r rv1 xs z l f wz) (h7 : l.getD 7 false = false) (h10 : l.getD 10 false = false) : S11 w0 w w10 P B g8 r rv1 xs z (l.setIfInBounds 6 true) (upd f 6 (.slice (some ⟨wz.heap.size, 0, none⟩) 1 1)) (wz.alloc (.cells z.C.toArray 36)) := by
 refine ⟨?_, ?_, ?_, ?_⟩
 ·rw [gset (by decide) false]; exact fun e => Ex.trans (h.pre e) (Ex.alloc _ _)
 ·rw [upd_same]; exact fun _ _ => ⟨_, rfl, Bk.new rfl _ _⟩
 ·rw [gset (by decide) false, h7]; intro e; cases e
 rw [gset (by decide) false, h10]; intro e; cases e
end
theorem pair_facts {wk wb wc : World} {v : Vt} {r : Rt} {a b : Obj} (o1 : Only wk.heap.size ((wk.alloc a).alloc b) wb) (d1 : VB wb wk.heap.size v) (o2 : Only (wk.heap.size + 1) wb wc) (d2 : RB wc (wk.heap.size + 1) r) : VB wc wk.heap.size v ∧ RB wc (wk.heap.size + 1) r ∧ Ex wk wc :=
 ⟨o2.vb d1 (by omega), d2, o2.below _ (Nat.le_succ _) _ (o1.below _ (Nat.le_refl _) _ (Ex.trans (Ex.alloc _ _) (Ex.alloc _ _)))⟩
end Go.Proofs.Ytmjfnpmnhehnkaa
