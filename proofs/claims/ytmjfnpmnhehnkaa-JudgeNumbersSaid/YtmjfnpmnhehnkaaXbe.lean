/- Wj, Wk, Wl, Wn, Jf -/
import Derived.Test.YtmjfnpmnhehnkaaXbb
import Derived.Test.YtmjfnpmnhehnkaaXbd
namespace Go.Proofs.Ytmjfnpmnhehnkaa
open Go.RowKit
theorem nodup_le {α : Type} [DecidableEq α] : ∀ (l1 l2 : List α), l1.Nodup → (∀ x ∈ l1, x ∈ l2) → l1.length ≤ l2.length
 | [], _, _, _ => Nat.zero_le _
 | a :: r, l2, hn, hs => by
  have ha := hs a (List.mem_cons_self ..)
  have h1 := nodup_le r (l2.erase a) (List.nodup_cons.1 hn).2 (fun x hx => (List.mem_erase_of_ne (fun e => (List.nodup_cons.1 hn).1 (by rw [← e]; exact hx))).2 (hs x (List.mem_cons_of_mem _ hx)))
  rw [List.length_erase_of_mem ha] at h1
  have h2 : 0 < l2.length := List.length_pos_of_mem ha
  simp only [List.length_cons]; omega
theorem sorted_eq {α : Type} (key : α → Int) : ∀ (l1 l2 : List α), l1.Pairwise (fun a b => key a < key b) → l2.Pairwise (fun a b => key a < key b) → (∀ x, x ∈ l1 ↔ x ∈ l2) → l1 = l2
 | [], [], _, _, _ => rfl
 | [], b :: r, _, _, h => absurd ((h b).2 (List.mem_cons_self ..)) (by simp)
 | a :: r, [], _, _, h => absurd ((h a).1 (List.mem_cons_self ..)) (by simp)
 | a :: r, b :: s, h1, h2, h => by
  obtain ⟨p1, p2⟩ := List.pairwise_cons.1 h1
  obtain ⟨q1, q2⟩ := List.pairwise_cons.1 h2
  have e : a = b := by
   rcases List.mem_cons.1 ((h a).1 (List.mem_cons_self ..)) with e | e
   ·exact e
   ·rcases List.mem_cons.1 ((h b).2 (List.mem_cons_self ..)) with e2 | e2
    ·exact e2.symm
    ·have := q1 a e; have := p1 b e2; omega
  subst e
  refine congrArg _ (sorted_eq key r s p2 q2 (fun x => ⟨fun hx => ?_, fun hx => ?_⟩))
  ·rcases List.mem_cons.1 ((h x).1 (List.mem_cons_of_mem _ hx)) with e | e
   ·subst e; have := p1 x hx; omega
   ·exact e
  ·rcases List.mem_cons.1 ((h x).2 (List.mem_cons_of_mem _ hx)) with e | e
   ·subst e; have := q1 x hx; omega
   ·exact e
structure Rel (v : Nat → List Vt) (xs : List Vt) : Prop where
 mem : ∀ i, i < 16 → ∀ c, c ∈ (v i).map Vt.ct ↔ c ∈ xs.map Vt.ct ∧ Sm.shV c.id = (i : Int)
 dist : ∀ (i j : Nat) (x y : Vt), i < j → xs[i]? = some x → xs[j]? = some y → x.id ≠ y.id
 right : ∀ x ∈ xs, x.ct.right = true
 idl : ∀ x ∈ xs, x.id.length = 4
theorem Rel.nil {v : Nat → List Vt} (h : ∀ i, i < 16 → v i = []) : Rel v [] := ⟨fun i hi c => by rw [h i hi]; simp, fun i j x y _ hx => by simp at hx, fun x hx => by simp at hx, fun x hx => by simp at hx⟩
theorem Rel.home {v : Nat → List Vt} {xs : List Vt} (h : Rel v xs) : Home v := fun i hi x hx => ((h.mem i hi x.ct).1 (List.mem_map.2 ⟨x, hx, rfl⟩)).2
theorem Rel.rightV {v : Nat → List Vt} {xs : List Vt} (h : Rel v xs) : RightV v := fun i hi j x hx => by
 obtain ⟨y, hy, e⟩ := List.mem_map.1 ((h.mem i hi x.ct).1 (List.mem_map.2 ⟨x, List.mem_of_getElem? hx, rfl⟩)).1
 rw [← e]; exact h.right y hy
theorem Rel.uniq {v : Nat → List Vt} {xs : List Vt} (h : Rel v xs) {x y : Vt} (hx : x ∈ xs) (hy : y ∈ xs) (e : x.id = y.id) : x = y := by
 obtain ⟨i, hi, e1⟩ := List.getElem_of_mem hx
 obtain ⟨j, hj, e2⟩ := List.getElem_of_mem hy
 have gi : xs[i]? = some x := by rw [List.getElem?_eq_getElem hi, e1]
 have gj : xs[j]? = some y := by rw [List.getElem?_eq_getElem hj, e2]
 rcases Nat.lt_trichotomy i j with h1 | h1 | h1
 ·exact absurd e (h.dist i j x y h1 gi gj)
 ·subst h1; rw [gi] at gj; exact Option.some.inj gj
 exact absurd e.symm (h.dist j i y x h1 gj gi)
theorem ct_nodup {xs : List Vt} (hd : ∀ (i j : Nat) (x y : Vt), i < j → xs[i]? = some x → xs[j]? = some y → x.id ≠ y.id) : (xs.map Vt.ct).Nodup := by
 unfold List.Nodup
 rw [List.pairwise_map, List.pairwise_iff_getElem]
 intro i j hi hj hij e
 exact hd i j _ _ hij (List.getElem?_eq_getElem hi) (List.getElem?_eq_getElem hj) (congrArg Vc.id e)
theorem tidy_nodup {vs : List Vt} (h : Tidy vs) : (vs.map Vt.ct).Nodup := by
 unfold List.Nodup
 rw [List.pairwise_map, List.pairwise_iff_getElem]
 intro i j hi hj hij e
 have h1 := h.srt i j hij hj
 rw [idF_get hi, idF_get hj, show vs[i].id = vs[j].id from congrArg Vc.id e] at h1
 omega
theorem Rel.cnt {v : Nat → List Vt} {xs : List Vt} (h : Rel v xs) {s : Nat} (hs : s < 16) (ht : Tidy (v s)) {id : List UInt8} (hid : Sm.shV id = (s : Int)) : cntS xs id = (v s).length := by
 have e1 : cntS xs id = (xs.filter (fun y => decide (Sm.shV y.id = Sm.shV id))).length := by unfold cntS; exact List.countP_eq_length_filter
 have hn : ((xs.filter (fun y => decide (Sm.shV y.id = Sm.shV id))).map Vt.ct).Nodup := List.Nodup.sublist (List.Sublist.map _ List.filter_sublist) (ct_nodup h.dist)
 have hm : ∀ c, c ∈ (xs.filter (fun y => decide (Sm.shV y.id = Sm.shV id))).map Vt.ct ↔ c ∈ (v s).map Vt.ct := fun c => by
  rw [h.mem s hs, ← hid]
  constructor
  ·intro hc
   obtain ⟨y, hy, rfl⟩ := List.mem_map.1 hc
   obtain ⟨h1, h2⟩ := List.mem_filter.1 hy
   exact ⟨List.mem_map.2 ⟨y, h1, rfl⟩, of_decide_eq_true h2⟩
  ·rintro ⟨hc, h2⟩
   obtain ⟨y, hy, rfl⟩ := List.mem_map.1 hc
   exact List.mem_map.2 ⟨y, List.mem_filter.2 ⟨hy, decide_eq_true h2⟩, rfl⟩
 have a := nodup_le _ _ hn (fun c hc => (hm c).1 hc)
 have b := nodup_le _ _ (tidy_nodup ht) (fun c hc => (hm c).2 hc)
 rw [List.length_map, List.length_map] at a b
 omega
theorem Rel.cur {v : Nat → List Vt} {xs : List Vt} (h : Rel v xs) {s : Nat} (hs : s < 16) {id : List UInt8} (hid : Sm.shV id = (s : Int)) {c : Vc} {x : Vt} {k : Int} (hc : Cur (v s) id c) (hg : GetP xs id x k) : x.ct = c ∧ (k < 0 ↔ c = zeroVc) := by
 have hz : ∀ y ∈ xs, y.ct ≠ zeroVc := fun y hy e => by have := h.right y hy; rw [e] at this; exact absurd this (by decide)
 rcases hg with ⟨rfl, rfl, hno⟩ | ⟨j, rfl, hj, hxid⟩
 ·rcases hc with ⟨rfl, _⟩ | ⟨y, hy, rfl, hyid⟩
  ·exact ⟨rfl, ⟨fun _ => rfl, fun _ => by decide⟩⟩
  obtain ⟨z, hz2, e⟩ := List.mem_map.1 ((h.mem s hs y.ct).1 (List.mem_map.2 ⟨y, hy, rfl⟩)).1
  exact absurd ((congrArg Vc.id e : z.id = y.id).trans hyid) (hno z hz2)
 have hx := List.mem_of_getElem? hj
 have hxv := (h.mem s hs x.ct).2 ⟨List.mem_map.2 ⟨x, hx, rfl⟩, by rw [show x.ct.id = id from hxid]; exact hid⟩
 obtain ⟨y, hy, e⟩ := List.mem_map.1 hxv
 rcases hc with ⟨_, hno⟩ | ⟨z, hz2, rfl, hzid⟩
 ·exact absurd ((congrArg Vc.id e : y.id = x.id).trans hxid) (hno y hy)
 obtain ⟨u, hu, e3⟩ := List.mem_map.1 ((h.mem s hs z.ct).1 (List.mem_map.2 ⟨z, hz2, rfl⟩)).1
 have : u = x := h.uniq hu hx (((congrArg Vc.id e3 : u.id = z.id).trans hzid).trans hxid.symm)
 subst this
 exact ⟨e3, ⟨fun h => by omega, fun h9 => absurd (e3.trans h9) (hz u hu)⟩⟩
theorem Rel.step {v v' : Nat → List Vt} {xs xs' : List Vt} (h : Rel v xs) {s : Nat} (hs : s < 16) (ht : Tidy (v s)) {q : Qc} {y y2 : Rc} (hid : q.id.length = 4) (hsh : Sm.shV q.id = (s : Int)) (h1 : IStep v s q y v') (h2 : PStep xs q y2 xs') : y = y2 ∧ Rel v' xs' := by
 rcases h2 with ⟨hr, rfl, rfl⟩ | ⟨hr, x, k, hg, hk, h2⟩
 ·rcases h1 with ⟨_, rfl, rfl⟩ | ⟨hr2, _⟩
  ·exact ⟨rfl, h⟩
  rw [hr] at hr2; cases hr2
 obtain ⟨c, hc, hkc, h1⟩ := istep_cur ht hid hr h1
 obtain ⟨e, hk0⟩ := h.cur hs hsh hc hg
 subst e
 rcases h1 with ⟨a1, a2, rfl⟩ | ⟨a1, a2, a3, a4, rfl⟩ | ⟨a1, a2, a3, ls, rfl, hrep⟩
 ·rcases h2 with ⟨_, b2, rfl⟩ | ⟨b1, _⟩ | ⟨b1, _⟩
  ·exact ⟨a2.trans b2.symm, h⟩
  ·rw [a1] at b1; cases b1
  rw [a1] at b1; cases b1
 ·rcases h2 with ⟨b1, _⟩ | ⟨_, _, _, b2, rfl⟩ | ⟨_, _, z, _, ⟨_, b3, _⟩ | ⟨j, b3, _⟩⟩
  ·rw [a1] at b1; cases b1
  ·exact ⟨a4.trans b2.symm, h⟩
  ·rw [h.cnt hs ht hsh] at b3; omega
  have := hk0.2 a2; omega
 have hdc := doC_changed hr hkc a1
 rcases h2 with ⟨b1, _⟩ | ⟨_, b2, b3, _⟩ | ⟨_, b2, z, hz, hput⟩
 ·rw [a1] at b1; cases b1
 ·rw [h.cnt hs ht hsh] at b3
  rcases a2 with a2 | a2
  ·exact absurd (hk0.1 b2) a2
  omega
 refine ⟨a3.trans b2.symm, ?_⟩
 rw [← hz] at hdc hrep
 obtain ⟨hzr, hzid⟩ := hdc
 have hzid : z.id = q.id := hzid
 have hmem : (∀ c, c ∈ xs'.map Vt.ct ↔ c = z.ct ∨ (c ∈ xs.map Vt.ct ∧ c.id ≠ z.id)) ∧ ∀ (i j : Nat) (x y : Vt), i < j → xs'[i]? = some x → xs'[j]? = some y → x.id ≠ y.id := by
  rcases hput with ⟨b4, _, rfl⟩ | ⟨j, rfl, hj, rfl⟩
  ·have hno : ∀ y ∈ xs, y.id ≠ z.id := fun y hy => by
    rcases hg with ⟨_, _, hno⟩ | ⟨j, e, _⟩
    ·rw [hzid]; exact hno y hy
    ·omega
   refine ⟨fun c => ?_, fun i j a b hij ha hb => ?_⟩
   ·rw [List.map_append, List.mem_append]
    constructor
    ·rintro (hc | hc)
     ·obtain ⟨y, hy, rfl⟩ := List.mem_map.1 hc
      exact Or.inr ⟨hc, hno y hy⟩
     ·simp at hc; exact Or.inl hc
    ·rintro (rfl | ⟨hc, _⟩)
     ·exact Or.inr (by simp)
     ·exact Or.inl hc
   ·have hj : j < xs.length + 1 := by have := (List.getElem?_eq_some_iff.1 hb).1; simpa using this
    have hi : i < xs.length := by omega
    rw [List.getElem?_append_left hi] at ha
    rcases Nat.lt_or_ge j xs.length with h3 | h3
    ·rw [List.getElem?_append_left h3] at hb
     exact h.dist i j a b hij ha hb
    ·obtain rfl : j = xs.length := by omega
     rw [List.getElem?_append_right (Nat.le_refl _), Nat.sub_self] at hb
     obtain rfl : z = b := by simpa using hb
     exact hno a (List.mem_of_getElem? ha)
  ·have hxj : xs[j]? = some x ∧ x.id = q.id := by
    rcases hg with ⟨e, _⟩ | ⟨j2, e, h3, h4⟩
    ·omega
    ·obtain rfl : j = j2 := by omega
     exact ⟨h3, h4⟩
   have hxz : x.id = z.id := hxj.2.trans hzid.symm
   have hoth : ∀ i y, i ≠ j → xs[i]? = some y → y.id ≠ z.id := fun i y hij hy => by
    rw [← hxz]
    rcases Nat.lt_or_ge i j with h3 | h3
    ·exact h.dist i j y x h3 hy hxj.1
    ·exact (h.dist j i x y (by omega) hxj.1 hy).symm
   refine ⟨fun c => ⟨fun hc => ?_, ?_⟩, fun i l a b hil ha hb => ?_⟩
   ·obtain ⟨y, hy, rfl⟩ := List.mem_map.1 hc
    obtain ⟨i, hi, e⟩ := List.getElem_of_mem hy
    by_cases hij : j = i
    ·subst hij; rw [List.getElem_set_self] at e; exact Or.inl (by rw [← e])
    ·rw [List.getElem_set_ne hij] at e
     rw [List.length_set] at hi
     have gy : xs[i]? = some y := by rw [List.getElem?_eq_getElem hi, e]
     exact Or.inr ⟨List.mem_map.2 ⟨y, List.mem_of_getElem? gy, rfl⟩, hoth i y (fun e => hij e.symm) gy⟩
   ·rintro (rfl | ⟨hc, hne⟩)
    ·exact List.mem_map.2 ⟨z, List.mem_iff_getElem.2 ⟨j, by rw [List.length_set]; exact hj, List.getElem_set_self _⟩, rfl⟩
    ·obtain ⟨y, hy, rfl⟩ := List.mem_map.1 hc
     obtain ⟨i, hi, e⟩ := List.getElem_of_mem hy
     have hij : j ≠ i := fun e2 => by
      subst e2
      rw [List.getElem?_eq_getElem hi, e] at hxj
      have : y = x := Option.some.inj hxj.1
      exact hne (by rw [this]; exact hxz)
     exact List.mem_map.2 ⟨y, List.mem_iff_getElem.2 ⟨i, by rw [List.length_set]; exact hi, by rw [List.getElem_set_ne hij, e]⟩, rfl⟩
   ·by_cases hi : j = i
    ·subst hi
     rw [List.getElem?_set_self hj] at ha
     cases ha
     rw [List.getElem?_set_ne (by omega)] at hb
     exact (hoth l b (by omega) hb).symm
    ·rw [List.getElem?_set_ne hi] at ha
     by_cases hl : j = l
     ·subst hl
      rw [List.getElem?_set_self hj] at hb
      cases hb
      exact hoth i a (fun e => hi e.symm) ha
     ·rw [List.getElem?_set_ne hl] at hb
      exact h.dist i l a b hil ha hb
 refine ⟨fun i hi c => ?_, hmem.2, fun u hu => ?_, fun u hu => ?_⟩
 ·by_cases e : i = s
  ·subst e
   rw [updF_same]
   refine (hrep c).trans ?_
   rw [hmem.1, h.mem i hi]
   constructor
   ·rintro (rfl | ⟨⟨h3, h4⟩, h5⟩)
    ·exact ⟨Or.inl rfl, by rw [show z.ct.id = q.id from hzid]; exact hsh⟩
    exact ⟨Or.inr ⟨h3, h5⟩, h4⟩
   rintro ⟨rfl | ⟨h3, h5⟩, h4⟩
   ·exact Or.inl rfl
   exact Or.inr ⟨⟨h3, h4⟩, h5⟩
  rw [updF_ne _ _ e, hmem.1, h.mem i hi]
  constructor
  ·rintro ⟨h3, h4⟩
   refine ⟨Or.inr ⟨h3, fun e2 => e ?_⟩, h4⟩
   rw [e2, hzid, hsh] at h4
   omega
  rintro ⟨rfl | ⟨h3, _⟩, h4⟩
  ·exfalso
   rw [show z.ct.id = q.id from hzid, hsh] at h4
   exact e (by omega)
  exact ⟨h3, h4⟩
 ·rcases (hmem.1 u.ct).1 (List.mem_map.2 ⟨u, hu, rfl⟩) with e | ⟨h3, _⟩
  ·rw [e]; exact hzr
  obtain ⟨t, ht2, e⟩ := List.mem_map.1 h3
  rw [← e]; exact h.right t ht2
 rcases (hmem.1 u.ct).1 (List.mem_map.2 ⟨u, hu, rfl⟩) with e | ⟨h3, _⟩
 ·rw [show u.id = z.id from congrArg Vc.id e, hzid]; exact hid
 obtain ⟨t, ht2, e⟩ := List.mem_map.1 h3
 rw [← show t.id = u.id from congrArg Vc.id e]; exact h.idl t ht2
def keyC (c : Vc) : Int := keyL c.id
theorem allV_sorted {v : Nat → List Vt} (ht : ∀ i, i < 16 → Tidy (v i)) (hh : Home v) : ∀ k, k ≤ 16 → ((allV v k).map Vt.ct).Pairwise (fun a b => keyC a < keyC b) ∧ ∀ x ∈ allV v k, Sm.shV x.id < (k : Int) ∧ x.id.length = 4
 | 0, _ => ⟨List.Pairwise.nil, fun x hx => by simp [allV] at hx⟩
 | k + 1, hk => by
  obtain ⟨h1, h2⟩ := allV_sorted ht hh k (by omega)
  have hT := ht k (by omega)
  have hH := hh k (by omega)
  rw [allV_succ]
  refine ⟨?_, fun x hx => ?_⟩
  ·rw [List.map_append, List.pairwise_append]
   refine ⟨h1, ?_, fun a ha b hb => ?_⟩
   ·rw [List.pairwise_map, List.pairwise_iff_getElem]
    intro i j hi hj hij
    have h3 := hT.srt i j hij hj
    rw [idF_get hi, idF_get hj] at h3
    have h4 := hH _ (List.getElem_mem hi)
    have h5 := hH _ (List.getElem_mem hj)
    show keyL (v k)[i].id < keyL (v k)[j].id
    unfold keyL
    rw [h4, h5]; omega
   ·obtain ⟨x, hx, rfl⟩ := List.mem_map.1 ha
    obtain ⟨y, hy, rfl⟩ := List.mem_map.1 hb
    have h3 := h2 x hx
    have h4 := hH y hy
    have h5 := idn_lt h3.2
    show keyL x.id < keyL y.id
    unfold keyL
    rw [h4]
    generalize Sm.shV x.id = a at *
    omega
  ·rcases List.mem_append.1 hx with h3 | h3
   ·have := h2 x h3
    exact ⟨by omega, this.2⟩
   ·exact ⟨by rw [hH x h3]; omega, hT.idl x h3⟩
theorem shv_lt (id : List UInt8) : ∃ s : Nat, s < 16 ∧ Sm.shV id = (s : Int) := by
 obtain ⟨s, h1, h2⟩ := shv_range id
 exact ⟨s, h2, h1⟩
theorem Rel.all {v : Nat → List Vt} {xs zs : List Vt} (h : Rel v xs) (ht : ∀ i, i < 16 → Tidy (v i)) (hm : ∀ x, x ∈ zs ↔ x ∈ xs) (hs : SortL zs) : (allV v 16).map Vt.ct = zs.map Vt.ct := by
 refine sorted_eq keyC _ _ (allV_sorted ht h.home 16 (Nat.le_refl _)).1 ?_ (fun c => ?_)
 ·rw [List.pairwise_map, List.pairwise_iff_getElem]
  intro i j hi hj hij
  exact hs i j _ _ hij (List.getElem?_eq_getElem hi) (List.getElem?_eq_getElem hj)
 constructor
 ·intro hc
  obtain ⟨x, hx, rfl⟩ := List.mem_map.1 hc
  unfold allV at hx
  obtain ⟨i, hi, hxi⟩ := List.mem_flatMap.1 hx
  obtain ⟨y, hy, e⟩ := List.mem_map.1 ((h.mem i (List.mem_range.1 hi) x.ct).1 (List.mem_map.2 ⟨x, hxi, rfl⟩)).1
  exact List.mem_map.2 ⟨y, (hm y).2 hy, e⟩
 intro hc
 obtain ⟨y, hy, rfl⟩ := List.mem_map.1 hc
 obtain ⟨s, h1, h2⟩ := shv_lt y.id
 obtain ⟨x, hx, e⟩ := List.mem_map.1 ((h.mem s h1 y.ct).2 ⟨List.mem_map.2 ⟨y, (hm y).1 hy, rfl⟩, h2⟩)
 exact List.mem_map.2 ⟨x, by unfold allV; exact List.mem_flatMap.2 ⟨s, List.mem_range.2 h1, hx⟩, e⟩
end Go.Proofs.Ytmjfnpmnhehnkaa
namespace Go.Proofs.Ytmjfnpmnhehnkaa
open Go.RowKit
structure PM (w0 w : World) (M : Nat) (D : Nat → Nat) (P : Nat) (r : Nat → Value) (v : Nat → List Vt) (rv : Value) (xs : List Vt) : Prop where
 im : IM w w0.heap.size M D r v
 pb : PB w0 w P rv xs
 dj : ∀ i, i < 16 → Djn rv (r i)
 ex : Ex w0 w
theorem PM.ext {w0 w w' : World} {M : Nat} {D : Nat → Nat} {P : Nat} {r : Nat → Value} {v : Nat → List Vt} {rv : Value} {xs : List Vt} (h : PM w0 w M D P r v rv xs) (k : Ex w w') : PM w0 w' M D P r v rv xs :=
 ⟨h.im.ext k, h.pb.ext k, h.dj, Ex.trans h.ex k⟩
theorem PB.tc {w0 w w' : World} {P D' : Nat} {rv rv' : Value} {xs vs' : List Vt} (h : PB w0 w P rv xs) (h' : TB w D' rv' vs') (k : Tc D' rv'.ownBlock w w') (hr : Djn rv rv') (lo : w0.heap.size ≤ D') : PB w0 w' P rv xs := by
 refine ⟨k.kt9 h' h.blk (by decide) (by decide), ⟨h.row.1, h.row.2.imp id fun ⟨g, cap, cur, hv, hB, hg, hrest⟩ => ⟨g, cap, cur, hv, hB, ?_, hrest⟩⟩, fun i x hx => ⟨(h.ins i x hx).ok, (h.ins i x hx).sec.tc k h' h.sz lo, (h.ins i x hx).len⟩, h.lo, Nat.le_trans h.sz k.size⟩
 exact (show Bk w' g 36 cur from k.bk hg (fun e => by subst e; exact h'.D_ne hg rfl) (fun e => hr g (by rw [hv]; rfl) e.symm))
theorem IM.plain {w w' : World} {B M P : Nat} {D : Nat → Nat} {r : Nat → Value} {v : Nat → List Vt} {cs : Array Value} (h : IM w B M D r v) (k : Md P w w') (hb : Bk w P 134 cs) : IM w' B M D r v := by
 have kt : Kt [134] 0 w w' := Kt.md k (Nat.zero_le _) hb (List.mem_singleton.2 rfl)
 exact ⟨kt.bk h.blk (by decide), h.ts.kts kt (by decide) (by decide) (by decide)⟩
theorem PN.md9 {w w' : World} {P B : Nat} {p : Pt} {cs : Array Value} (h : PN w B p) (k : Md P w w') (hb : Bk w P 134 cs) : PN w' B p :=
 h.kt (Kt.md k (Nat.zero_le _) hb (List.mem_singleton.2 rfl)) (by decide)
theorem Bk.md9 {w w' : World} {P g : Nat} {t : TypeId} {cs cs2 : Array Value} (h : Bk w g t cs2) (k : Md P w w') (hb : Bk w P 134 cs) (ht : t ≠ 134) : Bk w' g t cs2 :=
 (Kt.md (S := [134]) k (Nat.zero_le _) hb (List.mem_singleton.2 rfl)).bk h (fun h => ht (List.mem_singleton.1 h))
structure PI (w0 w : World) (M : Nat) (D : Nat → Nat) (P : Nat) (r : Nat → Value) (v : Nat → List Vt) (rv : Value) (xs : List Vt) : Prop where
 pm : PM w0 w M D P r v rv xs
 rel : Rel v xs
theorem PI.ext {w0 w w' : World} {M : Nat} {D : Nat → Nat} {P : Nat} {r : Nat → Value} {v : Nat → List Vt} {rv : Value} {xs : List Vt} (h : PI w0 w M D P r v rv xs) (k : Ex w w') : PI w0 w' M D P r v rv xs := ⟨h.pm.ext k, h.rel⟩
theorem PStep.len {xs xs' : List Vt} {q : Qc} {y : Rc} (h : PStep xs q y xs') : xs.length ≤ xs'.length ∧ xs'.length ≤ xs.length + 1 := by
 rcases h with ⟨_, _, rfl⟩ | ⟨_, x, k, _, _, ⟨_, _, rfl⟩ | ⟨_, _, _, _, rfl⟩ | ⟨_, _, z, _, ⟨_, _, rfl⟩ | ⟨j, _, _, rfl⟩⟩⟩
 ·omega
 ·omega
 ·omega
 ·rw [List.length_append]; simp
 rw [List.length_set]; omega
theorem Rel.total {v : Nat → List Vt} {xs : List Vt} (h : Rel v xs) (ht : ∀ i, i < 16 → Tidy (v i)) : (allV v 16).length = xs.length := by
 have hm : ∀ c, c ∈ (allV v 16).map Vt.ct ↔ c ∈ xs.map Vt.ct := fun c => by
  constructor
  ·intro hc
   obtain ⟨x, hx, rfl⟩ := List.mem_map.1 hc
   unfold allV at hx
   obtain ⟨i, hi, hxi⟩ := List.mem_flatMap.1 hx
   exact ((h.mem i (List.mem_range.1 hi) x.ct).1 (List.mem_map.2 ⟨x, hxi, rfl⟩)).1
  ·intro hc
   obtain ⟨y, hy, rfl⟩ := List.mem_map.1 hc
   obtain ⟨s, h1, h2⟩ := shv_lt y.id
   obtain ⟨x, hx, e⟩ := List.mem_map.1 ((h.mem s h1 y.ct).2 ⟨hc, h2⟩)
   exact List.mem_map.2 ⟨x, by unfold allV; exact List.mem_flatMap.2 ⟨s, List.mem_range.2 h1, hx⟩, e⟩
 have hn : ((allV v 16).map Vt.ct).Nodup := by
  unfold List.Nodup
  exact (allV_sorted ht h.home 16 (Nat.le_refl _)).1.imp (fun hab e => by rw [e] at hab; omega)
 have a := nodup_le _ _ hn (fun c hc => (hm c).1 hc)
 have b := nodup_le _ _ (ct_nodup h.dist) (fun c hc => (hm c).2 hc)
 rw [List.length_map, List.length_map] at a b
 omega
end Go.Proofs.Ytmjfnpmnhehnkaa
namespace Go.Proofs.Ytmjfnpmnhehnkaa
open Go.RowKit
structure C11 (w0 w : World) (g : Nat) (q : Qt) (B2 M2 : Nat) (D2 : Nat → Nat) (r2 : Nat → Value) (v2 : Nat → List Vt) : Prop where
 ex : Ex w0 w
 qb : QB w g q
 sk : SK w0 w q.sec
 cp : IM w B2 M2 D2 r2 v2
def A11 (w0 w : World) (x : Value) (b : Bool) (y : Value) : Prop := ∃ (h : Nat) (cs : Array Value), x = .pointer (some ⟨h, 0, none⟩) ∧ w0.heap.size ≤ h ∧ Bk w h 83 cs ∧ cs.size = 10 ∧ (b = true → y = .agg cs)
def R11 (w : World) (x : Value) (y : Rt) : Prop := x = y.V ∧ y.Ok ∧ PN w 0 y.sec
section
variable {w0 w w' : World} {M : Nat} {D : Nat → Nat} {P s g : Nat} {r r' : Nat → Value} {v v' : Nat → List Vt} {rv rv' : Value} {xs xs' : List Vt} {q : Qt} {B2 M2 : Nat} {D2 : Nat → Nat} {r2 : Nat → Value} {v2 : Nat → List Vt} {x y : Value} {b : Bool} {z : Rt}
theorem C11.ext (h : C11 w0 w g q B2 M2 D2 r2 v2) (k : Ex w w') : C11 w0 w' g q B2 M2 D2 r2 v2 := ⟨Ex.trans h.ex k, h.qb.ext k, h.sk.ext (Below.size h.ex) k, h.cp.ext k⟩
theorem A11.ext (h : A11 w0 w x b y) (k : Ex w w') : A11 w0 w' x b y := by
 obtain ⟨a, cs, h1, h2, h3, h4⟩ := h; exact ⟨a, cs, h1, h2, h3.ext k, h4⟩
theorem R11.ext (h : R11 w x z) (k : Ex w w') : R11 w' x z := ⟨h.1, h.2.1, h.2.2.ext k⟩
theorem C11.tc (h : C11 w0 w g q B2 M2 D2 r2 v2) (hm : PM w0 w M D P r v rv xs) (hs : s < 16) (k : Tc (D s) (r s).ownBlock w w') (ap : Apart D r D2 r2) : C11 w0 w' g q B2 M2 D2 r2 v2 := by
 have ht := hm.im.ts.tb s hs
 have lo := hm.im.ts.lo s hs
 exact ⟨k.ex9 ht h.ex lo, ⟨h.qb.1, k.kt9 ht h.qb.2 (by decide) (by decide)⟩, h.sk.tc k ht (Below.size h.ex) lo, hm.im.other h.cp hs k ap⟩
theorem A11.tc (h : A11 w0 w x b y) (hm : PM w0 w M D P r v rv xs) (hs : s < 16) (k : Tc (D s) (r s).ownBlock w w') : A11 w0 w' x b y := by
 obtain ⟨a, cs, h1, h2, h3, h4⟩ := h; exact ⟨a, cs, h1, h2, k.kt9 (hm.im.ts.tb s hs) h3 (by decide) (by decide), h4⟩
theorem C11.md (h : C11 w0 w g q B2 M2 D2 r2 v2) (hm : PM w0 w M D P r v rv xs) (k : Md P w w') : C11 w0 w' g q B2 M2 D2 r2 v2 := by
 have hb := hm.pb.blk
 have lo := hm.pb.lo
 exact ⟨k.below w0.heap.size lo w0 h.ex, ⟨h.qb.1, h.qb.2.md9 k hb (by decide)⟩, h.sk.kt (Kt.md k lo hb (List.mem_singleton.2 rfl)) (by decide), h.cp.plain k hb⟩
theorem A11.md (h : A11 w0 w x b y) (hm : PM w0 w M D P r v rv xs) (k : Md P w w') : A11 w0 w' x b y := by
 obtain ⟨a, cs, h1, h2, h3, h4⟩ := h; exact ⟨a, cs, h1, h2, h3.md9 k hm.pb.blk (by decide), h4⟩
theorem R11.md (h : R11 w x z) (hm : PM w0 w M D P r v rv xs) (k : Md P w w') : R11 w' x z := ⟨h.1, h.2.1, h.2.2.md9 k hm.pb.blk⟩
theorem C11.only {a : Nat} {cs : Array Value} (h : C11 w0 w g q B2 M2 D2 r2 v2) (ho : Only a w w') (lo : w0.heap.size ≤ a) (hb : Bk w a 83 cs) : C11 w0 w' g q B2 M2 D2 r2 v2 := by
 have k : Kt [83] w0.heap.size w w' := Kt.md ho.md lo hb (List.mem_singleton.2 rfl)
 exact ⟨ho.below w0.heap.size lo w0 h.ex, ⟨h.qb.1, k.bk h.qb.2 (by decide)⟩, h.sk.kt k (by decide), h.cp.kts9 (k.less (Nat.zero_le _))⟩
theorem A11.only {a : Nat} (h : A11 w0 w x b y) (ho : Only a w w') (hn : x ≠ .pointer (some ⟨a, 0, none⟩)) : A11 w0 w' x b y := by
 obtain ⟨c, cs, h1, h2, h3, h4⟩ := h; exact ⟨c, cs, h1, h2, ho.bk h3 (fun e => hn (by rw [h1, e])), h4⟩
theorem R11.only {a : Nat} {cs : Array Value} (h : R11 w x z) (ho : Only a w w') (hb : Bk w a 83 cs) : R11 w' x z := ⟨h.1, h.2.1, h.2.2.onlyT ho hb (by decide)⟩
theorem PM.only {a : Nat} {cs : Array Value} (h : PM w0 w M D P r v rv xs) (ho : Only a w w') (lo : w0.heap.size ≤ a) (hb : Bk w a 83 cs) : PM w0 w' M D P r v rv xs := by
 have k : Kt [83] w0.heap.size w w' := Kt.md ho.md lo hb (List.mem_singleton.2 rfl)
 exact ⟨h.im.kts9 (k.less (Nat.zero_le _)), h.pb.kt k (by decide) (by decide) (by decide), h.dj, ho.below w0.heap.size lo w0 h.ex⟩
theorem A11.lt (h : A11 w0 w x b y) : x ≠ .pointer (some ⟨w.heap.size, 0, none⟩) := by
 obtain ⟨a, cs, h1, h2, h3, h4⟩ := h
 intro e
 have h5 := h3.lt
 rw [h1] at e
 injection e with e; injection e with e; injection e with e
 omega
end
structure Q11 (w0 : World) (M : Nat) (D : Nat → Nat) (P : Nat) (r : Nat → Value) (v : Nat → List Vt) (rv : Value) (xs : List Vt) (s g : Nat) (q : Qt) (B2 M2 : Nat) (D2 : Nat → Nat) (r2 : Nat → Value) (v2 : Nat → List Vt) (l : Array Bool) (f : Nat → Value) (w : World) : Prop where
 c : C11 w0 w g q B2 M2 D2 r2 v2
 st0 : l.getD 2 false = false → PM w0 w M D P r v rv xs
 st1 : l.getD 2 false = true → l.getD 5 false = false → ∃ y1 r1 v1, R11 w (f 2) y1 ∧ PM w0 w M D P r1 v1 rv xs ∧ IStep v s q.ct y1.ct v1
 st2 : l.getD 5 false = true → ∃ y1 y2 r1 v1 rv1 xs1, R11 w (f 2) y1 ∧ R11 w (f 5) y2 ∧ PM w0 w M D P r1 v1 rv1 xs1 ∧ IStep v s q.ct y1.ct v1 ∧ PStep xs q.ct y2.ct xs1
 a6 : l.getD 6 false = true → A11 w0 w (f 6) (l.getD 8 false) (f 2)
 a7 : l.getD 7 false = true → A11 w0 w (f 7) (l.getD 9 false) (f 5)
 ne : l.getD 6 false = true → l.getD 7 false = true → f 6 ≠ f 7
section
variable {w0 w w' : World} {M : Nat} {D : Nat → Nat} {P s g : Nat} {r r1 : Nat → Value} {v v1 : Nat → List Vt} {rv rv1 : Value} {xs xs1 : List Vt} {q : Qt} {B2 M2 : Nat} {D2 : Nat → Nat} {r2 : Nat → Value} {v2 : Nat → List Vt} {l : Array Bool} {f : Nat → Value} {x : Value} {y : Rt}
theorem Q11.ext (h : Q11 w0 M D P r v rv xs s g q B2 M2 D2 r2 v2 l f w) (k : Ex w w') : Q11 w0 M D P r v rv xs s g q B2 M2 D2 r2 v2 l f w' :=
 ⟨h.c.ext k, fun a => (h.st0 a).ext k, fun a b => by obtain ⟨y1, r1, v1, h1, h2, h3⟩ := h.st1 a b; exact ⟨y1, r1, v1, h1.ext k, h2.ext k, h3⟩, fun a => by obtain ⟨y1, y2, r1, v1, rv1, xs1, h1, h2, h3, h4⟩ := h.st2 a; exact ⟨y1, y2, r1, v1, rv1, xs1, h1.ext k, h2.ext k, h3.ext k, h4⟩, fun a => (h.a6 a).ext k, fun a => (h.a7 a).ext k, h.ne⟩
theorem Q11.plain (h : Q11 w0 M D P r v rv xs s g q B2 M2 D2 r2 v2 l f w) (i : Nat) (hi : i ≠ 2 ∧ i ≠ 5 ∧ i ≠ 6 ∧ i ≠ 7 ∧ i ≠ 8 ∧ i ≠ 9) : Q11 w0 M D P r v rv xs s g q B2 M2 D2 r2 v2 (l.setIfInBounds i true) (upd f i x) w := by
 obtain ⟨i2, i5, i6, i7, i8, i9⟩ := hi
 refine ⟨h.c, ?_, ?_, ?_, ?_, ?_, ?_⟩
 ·rw [gset i2 false]; exact h.st0
 ·rw [gset i2 false, gset i5 false, upd_ne _ _ (Ne.symm i2)]; exact h.st1
 ·rw [gset i5 false, upd_ne _ _ (Ne.symm i2), upd_ne _ _ (Ne.symm i5)]; exact h.st2
 ·rw [gset i6 false, gset i8 false, upd_ne _ _ (Ne.symm i6), upd_ne _ _ (Ne.symm i2)]; exact h.a6
 ·rw [gset i7 false, gset i9 false, upd_ne _ _ (Ne.symm i7), upd_ne _ _ (Ne.symm i5)]; exact h.a7
 rw [gset i6 false, gset i7 false, upd_ne _ _ (Ne.symm i6), upd_ne _ _ (Ne.symm i7)]; exact h.ne
theorem Q11.s8 {a : Nat} {cs : Array Value} (h : Q11 w0 M D P r v rv xs s g q B2 M2 D2 r2 v2 l f w) (hl : 8 < l.size) (h2 : l.getD 2 false = true) (h5 : l.getD 5 false = true) (h6 : l.getD 6 false = true) (e6 : f 6 = .pointer (some ⟨a, 0, none⟩)) (lo : w0.heap.size ≤ a) (hb : Bk w a 83 cs) (ho : Only a w w') (hf : f 2 = y.V) (hr : RB w' a y) : Q11 w0 M D P r v rv xs s g q B2 M2 D2 r2 v2 (l.setIfInBounds 8 true) (upd f 8 x) w' := by
 refine ⟨h.c.only ho lo hb, ?_, ?_, ?_, ?_, ?_, ?_⟩
 ·rw [gset (by decide) false, h2]; intro e; cases e
 ·rw [gset (show (8 : Nat) ≠ 5 by decide) false, h5]; intro _ e; cases e
 ·rw [gset (by decide) false, upd_ne _ _ (by decide), upd_ne _ _ (by decide)]
  intro b
  obtain ⟨y1, y2, r1, v1, rv1, xs1, h1, h2, h3, h4⟩ := h.st2 b
  exact ⟨y1, y2, r1, v1, rv1, xs1, h1.only ho hb, h2.only ho hb, h3.only ho lo hb, h4⟩
 ·rw [upd_ne _ _ (by decide), upd_ne _ _ (by decide), e6]
  exact fun _ => ⟨a, y.C.toArray, rfl, lo, hr.2, by rw [List.size_toArray, Rt.len hr.1], fun _ => hf⟩
 ·rw [gset (by decide) false, gset (by decide) false, upd_ne _ _ (by decide), upd_ne _ _ (by decide)]
  exact fun b => (h.a7 b).only ho (fun e => h.ne h6 b (by rw [e6, e]))
 rw [gset (by decide) false, gset (by decide) false, upd_ne _ _ (by decide), upd_ne _ _ (by decide)]; exact h.ne
theorem Q11.s9 {a : Nat} {cs : Array Value} (h : Q11 w0 M D P r v rv xs s g q B2 M2 D2 r2 v2 l f w) (hl : 9 < l.size) (h2 : l.getD 2 false = true) (h5 : l.getD 5 false = true) (h7 : l.getD 7 false = true) (e7 : f 7 = .pointer (some ⟨a, 0, none⟩)) (lo : w0.heap.size ≤ a) (hb : Bk w a 83 cs) (ho : Only a w w') (hf : f 5 = y.V) (hr : RB w' a y) : Q11 w0 M D P r v rv xs s g q B2 M2 D2 r2 v2 (l.setIfInBounds 9 true) (upd f 9 x) w' := by
 refine ⟨h.c.only ho lo hb, ?_, ?_, ?_, ?_, ?_, ?_⟩
 ·rw [gset (by decide) false, h2]; intro e; cases e
 ·rw [gset (show (9 : Nat) ≠ 5 by decide) false, h5]; intro _ e; cases e
 ·rw [gset (by decide) false, upd_ne _ _ (by decide), upd_ne _ _ (by decide)]
  intro b
  obtain ⟨y1, y2, r1, v1, rv1, xs1, h1, h2, h3, h4⟩ := h.st2 b
  exact ⟨y1, y2, r1, v1, rv1, xs1, h1.only ho hb, h2.only ho hb, h3.only ho lo hb, h4⟩
 ·rw [gset (by decide) false, gset (by decide) false, upd_ne _ _ (by decide), upd_ne _ _ (by decide)]
  exact fun b => (h.a6 b).only ho (fun e => h.ne b h7 (by rw [e7, e]))
 ·rw [upd_ne _ _ (by decide), upd_ne _ _ (by decide), e7]
  exact fun _ => ⟨a, y.C.toArray, rfl, lo, hr.2, by rw [List.size_toArray, Rt.len hr.1], fun _ => hf⟩
 rw [gset (by decide) false, gset (by decide) false, upd_ne _ _ (by decide), upd_ne _ _ (by decide)]; exact h.ne
end
end Go.Proofs.Ytmjfnpmnhehnkaa
namespace Go.Proofs.Ytmjfnpmnhehnkaa
open Go.RowKit
structure Qp.In (ad : Option Addr) (cap : Nat) (l : List Qt) (w : World) : Prop where
 len : l.length ≤ cap
 nil : ad = none → cap = 0
 ins : ∀ (i : Nat) (x : Qt), l[i]? = some x → QI w x
 read : 0 < l.length → ∃ a o, ad = some ⟨a, o, none⟩ ∧ a < w.heap.size ∧ ∀ (i : Nat) (x : Qt), l[i]? = some x → w.rangeAt a (o + i * 57) x.C
theorem Qp.In.ext {ad : Option Addr} {cap : Nat} {l : List Qt} {w w' : World} (h : Qp.In ad cap l w) (k : Ex w w') : Qp.In ad cap l w' :=
 ⟨h.len, h.nil, fun i x hx => (h.ins i x hx).ext k, fun h0 => by
  obtain ⟨a, o, e, hB, hc⟩ := h.read h0
  exact ⟨a, o, e, Nat.lt_of_lt_of_le hB k.sz, fun i x hx j v hv => (Below.cell (p := ⟨a, o + i * 57 + j, none⟩) k hB).trans (hc i x hx j v hv)⟩⟩
def RV (w : World) (v : Value) (C : List Vc) : Prop := ∃ ad cap zs, v = .slice ad zs.length cap ∧ cap ≤ 9223372036854775807 ∧ Vp.In ad cap zs w ∧ (∀ (i : Nat) (x : Vt), zs[i]? = some x → VI w x) ∧ zs.map Vt.ct = C
theorem RV.ext {w w' : World} {v : Value} {C : List Vc} (h : RV w v C) (k : Ex w w') : RV w' v C := by
 obtain ⟨ad, cap, zs, h1, h2, h3, h4, h5⟩ := h
 exact ⟨ad, cap, zs, h1, h2, h3.ext k, fun i x hx => (h4 i x hx).ext k, h5⟩
theorem RV.of {w : World} {B : Nat} {v : Value} {zs : List Vt} {C : List Vc} (h : VRow w B v zs) (e : zs.map Vt.ct = C) : RV w v C := by
 obtain ⟨ad, cap, h1, h2, h3⟩ := h.inn3
 exact ⟨ad, cap, zs, h1, h3, h2, fun i x hx => (h.ins i x hx).vi, e⟩
theorem RV.own {w0 w w' : World} {P B : Nat} {rv v : Value} {xs zs : List Vt} {C : List Vc} (h : w'.ownsRow B 36 42 v zs.length (zs.flatMap Vt.C)) (hp : PB w0 w P rv xs) (k : Ex w w') (hm : ∀ x, x ∈ zs ↔ x ∈ xs) (e : zs.map Vt.ct = C) : RV w' v C := by
 have hpx : ∀ x ∈ zs, PX w0 w' x := fun x hx => by
  obtain ⟨i, hi, e⟩ := List.getElem_of_mem ((hm x).1 hx)
  exact (hp.ext k).ins i x (by rw [List.getElem?_eq_getElem hi, e])
 have hok : ∀ (i : Nat) (x : Vt), zs[i]? = some x → x.Ok := fun i x hx => (hpx x (List.mem_of_getElem? hx)).ok
 obtain ⟨ad2, cap2, e2, hn, hl, hc9, hr⟩ := own_rd h
 refine ⟨ad2, cap2, zs, e2, hc9, ⟨hl, hn, hok, fun h0 => ?_⟩, fun i x hx => (hpx x (List.mem_of_getElem? hx)).vi (Nat.le_trans hp.sz (Below.size k)), e⟩
 obtain ⟨g, o, ea, hg, hrr⟩ := hr.read h0
 refine ⟨g, o, ea, hg, fun i x hx j u hu => ?_⟩
 have hj : j < 42 := by have := (List.getElem?_eq_some_iff.1 hu).1; rw [Vt.len (hok i x hx)] at this; exact this
 have h := hrr (i * 42 + j) u (by rw [vflat_at zs hok i j x hx hj]; exact hu)
 rw [← Nat.add_assoc] at h; exact h
structure S14 (wd : World) (C : List Vc) (l : Array Bool) (f : Nat → Value) (w : World) : Prop where
 ex : Ex wd w
 e18 : l.getD 18 false = true → RV w (f 18) C
 e20 : l.getD 20 false = true → RV w (f 20) C
theorem S14.next {wd w w' : World} {C : List Vc} {l : Array Bool} {f : Nat → Value} {x : Value} (h : S14 wd C l f w) (k : Ex w w') (i : Nat) (hr : (i = 18 ∨ i = 20) → RV w' x C) : S14 wd C (l.setIfInBounds i true) (upd f i x) w' := by
 refine ⟨Ex.trans h.ex k, fun a => ?_, fun a => ?_⟩
 · by_cases e : i = 18
   · subst e; rw [upd_same]; exact hr (Or.inl rfl)
   rw [gset e false] at a; rw [upd_ne _ _ (Ne.symm e)]; exact (h.e18 a).ext k
 by_cases e : i = 20
 · subst e; rw [upd_same]; exact hr (Or.inr rfl)
 rw [gset e false] at a; rw [upd_ne _ _ (Ne.symm e)]; exact (h.e20 a).ext k
theorem PM.start {w0 w : World} {M P : Nat} {D : Nat → Nat} {r : Nat → Value} {v : Nat → List Vt} (h : IM w w0.heap.size M D r v) (hx : Ex w0 w) (lo : w0.heap.size ≤ P) (hb : Bk w P 134 #[.slice none 0 0]) (hv : ∀ i, i < 16 → v i = []) : PI w0 w M D P r v (.slice none 0 0) [] :=
 ⟨⟨h, ⟨hb, World.ownsRow_nil _ _ _ _, fun i x hx => by simp at hx, lo, Below.size hx⟩, (fun i hi g hg => nomatch hg), hx⟩, Rel.nil hv⟩
theorem PI.step {w0 w : World} {M P s : Nat} {D : Nat → Nat} {r1 v0r : Nat → Value} {v v1 : Nat → List Vt} {rv1 : Value} {xs xs1 : List Vt} {wb : World} (hm : IM wb w0.heap.size M D v0r v) (hr : Rel v xs) (hs : s < 16) {q : Qc} {y1 y2 : Rc} (hid : q.id.length = 4) (hsh : Sm.shV q.id = (s : Int)) (h1 : IStep v s q y1 v1) (h2 : PStep xs q y2 xs1) (h3 : PM w0 w M D P r1 v1 rv1 xs1) : y1 = y2 ∧ PI w0 w M D P r1 v1 rv1 xs1 := by
 obtain ⟨e, hr'⟩ := hr.step hs (hm.tidy hr.rightV hs) hid hsh h1 h2
 exact ⟨e, h3, hr'⟩
theorem PI.get {w0 w : World} {M P s : Nat} {D : Nat → Nat} {r : Nat → Value} {v : Nat → List Vt} {rv : Value} {xs : List Vt} (h : PI w0 w M D P r v rv xs) (hs : s < 16) {id : List UInt8} (hid : id.length = 4) (hsh : Sm.shV id = (s : Int)) {c : Vc} {b : Bool} (hd : GetDet (v s) (idn id) c b) {x : Vt} {k : Int} (hg : GetP xs id x k) : x.ct = c ∧ decide (0 ≤ k) = b := by
 obtain ⟨hc, hb, _⟩ := cur_of (h.pm.im.tidy h.rel.rightV hs) hid hd
 obtain ⟨e, hk⟩ := h.rel.cur hs hsh hc hg
 refine ⟨e, ?_⟩
 cases b with
 | true => exact decide_eq_true (by have h1 := hb.1 rfl; have h2 : ¬ k < 0 := fun hk' => h1 (hk.1 hk'); omega)
 | false => exact decide_eq_false (by have : c = zeroVc := Classical.byContradiction (fun hne => by have := hb.2 hne; cases this); have := hk.2 this; omega)
end Go.Proofs.Ytmjfnpmnhehnkaa
namespace Go.Proofs.Ytmjfnpmnhehnkaa
open Go.RowKit
structure Dt where
 mem : Int
 q : Qt
 r : Rt
def Dt.C (x : Dt) : List Value := .int .i64 x.mem :: (x.q.C ++ x.r.C)
def Dt.V (x : Dt) : Value := .agg x.C.toArray
structure DI9 (w : World) (x : Dt) : Prop where
 q : QI w x.q
 r : RI w x.r
theorem DI9.ext {w w' : World} {x : Dt} (h : DI9 w x) (k : Ex w w') : DI9 w' x := ⟨h.q.ext k, h.r.ext k⟩
theorem Dt.len {x : Dt} (hq : x.q.Ok) (hr : x.r.Ok) : x.C.length = 68 := by
 show (x.q.C ++ x.r.C).length + 1 = 68
 rw [List.length_append, Qt.len hq, Rt.len hr]
theorem Dt.one (x : Dt) : x.C.toArray.all (·.oneCell') = true := by
 have h1 := x.q.ones
 have h2 := x.r.ones
 rw [List.all_toArray, List.all_eq_true] at h1 h2 ⊢
 intro u hu
 rcases List.mem_cons.1 hu with rfl | hu
 ·rfl
 rcases List.mem_append.1 hu with hu | hu
 ·exact h1 u hu
 exact h2 u hu
theorem Dt.q_at {x : Dt} : (x.C.drop 1).take x.q.C.length = x.q.C := by
 show (x.q.C ++ x.r.C).take x.q.C.length = x.q.C
 rw [List.take_left']; rfl
theorem Dt.r_at {x : Dt} (hq : x.q.Ok) : (x.C.drop 58).take x.r.C.length = x.r.C := by
 show ((x.q.C ++ x.r.C).drop 57).take x.r.C.length = x.r.C
 rw [List.drop_left' (Qt.len hq), List.take_length]
theorem Try.sizeDt : (Try.prog.info? 149).map (·.size) = some 68 := by kernel_rfl
structure Dp.In (ad : Option Addr) (cap : Nat) (l : List Dt) (w : World) : Prop where
 len : l.length ≤ cap
 nil : ad = none → cap = 0
 ins : ∀ (i : Nat) (x : Dt), l[i]? = some x → DI9 w x
 read : 0 < l.length → ∃ a o, ad = some ⟨a, o, none⟩ ∧ a < w.heap.size ∧ ∀ (i : Nat) (x : Dt), l[i]? = some x → w.rangeAt a (o + i * 68) x.C
theorem Dp.In.ext {ad : Option Addr} {cap : Nat} {l : List Dt} {w w' : World} (h : Dp.In ad cap l w) (k : Ex w w') : Dp.In ad cap l w' :=
 ⟨h.len, h.nil, fun i x hx => (h.ins i x hx).ext k, fun h0 => by
  obtain ⟨a, o, e, hB, hc⟩ := h.read h0
  exact ⟨a, o, e, Nat.lt_of_lt_of_le hB k.sz, fun i x hx j v hv => (Below.cell (p := ⟨a, o + i * 68 + j, none⟩) k hB).trans (hc i x hx j v hv)⟩⟩
theorem Dp.In.take {ad : Option Addr} {cap : Nat} {l : List Dt} {w : World} (h : Dp.In ad cap l w) (n : Nat) : Dp.In ad cap (l.take n) w := by
 have hg : ∀ (i : Nat) (x : Dt), (l.take n)[i]? = some x → l[i]? = some x := fun i x hx => by
  rw [List.getElem?_take] at hx
  split at hx
  ·exact hx
  ·cases hx
 refine ⟨Nat.le_trans (by rw [List.length_take]; exact Nat.min_le_right _ _) h.len, h.nil, fun i x hx => h.ins i x (hg i x hx), fun h0 => ?_⟩
 obtain ⟨a, o, e, hB, hc⟩ := h.read (by rw [List.length_take] at h0; omega)
 exact ⟨a, o, e, hB, fun i x hx => hc i x (hg i x hx)⟩
theorem Dp.nil9 (w : World) : Dp.In none 0 [] w := ⟨Nat.le_refl _, fun _ => rfl, fun i x hx => by simp at hx, fun h => absurd h (Nat.lt_irrefl 0)⟩
section
variable {o : Oper} {a : Act} {w : World} {K : Act → World → Prop} {Q : Exit → Act → World → Prop}
theorem ld_dr (y : Operand) (g off : Nat) (x : Dt) (hq : x.q.Ok) (hr : x.r.Ok) (ho : o.op = .load 149 y) (ha : a.eval y = .pointer (some ⟨g, off, none⟩)) (h : w.rangeAt g off x.C) (hk : K (a.put o.dst x.V) w) : o.wp Try.prog a w K Q := by
 obtain ⟨dd, hd⟩ : ∃ d, Try.prog.underlying 149 = some d ∧ d.isRow = true := ⟨_, Try.underlying149, rfl⟩
 exact wp_load_mid 149 y ho g off ha x.C dd h hd.1 hd.2 (by rw [Try.sizeDt, Dt.len hq hr]) hk
theorem st_d (x y : Operand) (g : Nat) (v : Dt) (ho : o.op = .store 149 x y) (ha : a.eval x = .pointer (some ⟨g, 0, none⟩)) (hy : a.eval y = v.V) (hq : v.q.Ok) (hr : v.r.Ok)
  {Y : Array Value} (hB : Bk w g 149 Y) (hY : Y.size = 68) (hk : ∀ w', Bk w' g 149 v.C.toArray → Only g w w' → K (a.put o.dst undef) w') : o.wp Try.prog a w K Q := by
 have hB' : Bk w g 149 Y.toList.toArray := by simpa using hB
 refine wp_stp v.C x y g 0 ho ha hy hB' (by rw [Dt.len hq hr]; simp [hY]) (by rw [Try.sizeDt, Dt.len hq hr]) v.one (fun w' h1 h2 => hk w' ?_ h2)
 have e : Y.toList.take 0 ++ v.C ++ Y.toList.drop (0 + v.C.length) = v.C := by
  rw [List.take_zero, List.nil_append, List.drop_eq_nil_of_le (by rw [Dt.len hq hr]; simp [hY]), List.append_nil]
 rw [e] at h1; exact h1
theorem ld_dq (x : Operand) (g : Nat) (v : Dt) (hq : v.q.Ok) (ho : o.op = .load 86 x) (ha : a.eval x = .pointer (some ⟨g, 1, none⟩)) (h : Bk w g 149 v.C.toArray) (hk : K (a.put o.dst v.q.V) w) : o.wp Try.prog a w K Q := by
 obtain ⟨dd, hd⟩ : ∃ d, Try.prog.underlying 86 = some d ∧ d.isRow = true := ⟨_, Try.underlying86, rfl⟩
 exact wp_ldp (C := v.C) v.q.C x g 1 dd ho ha h Dt.q_at hd.1 hd.2 (by rw [Try.sizeQt, Qt.len hq]) hk
theorem ld_drp (x : Operand) (g : Nat) (v : Dt) (hq : v.q.Ok) (hr : v.r.Ok) (ho : o.op = .load 83 x) (ha : a.eval x = .pointer (some ⟨g, 58, none⟩)) (h : Bk w g 149 v.C.toArray) (hk : K (a.put o.dst v.r.V) w) : o.wp Try.prog a w K Q := by
 obtain ⟨dd, hd⟩ : ∃ d, Try.prog.underlying 83 = some d ∧ d.isRow = true := ⟨_, Try.underlying83, rfl⟩
 exact wp_ldp (C := v.C) v.r.C x g 58 dd ho ha h (Dt.r_at hq) hd.1 hd.2 (by rw [Try.sizeRt, Rt.len hr]) hk
end
structure Chain (l : List Dt) (X : Nat → List Vt) (Y : Nat → Rc) : Prop where
 zero : X 0 = []
 step : ∀ (k : Nat) (x : Dt), l[k]? = some x → PStep (X k) x.q.ct (Y k) (X (k + 1))
def Good (l : List Dt) (Y : Nat → Rc) (k : Nat) : Prop := ∀ (i : Nat) (x : Dt), i < k → l[i]? = some x → Y i = x.r.ct
def FirstBad (l : List Dt) (Y : Nat → Rc) (n : Int) : Prop := (n = -1 ∧ Good l Y l.length) ∨ ∃ (k : Nat) (x : Dt), n = (k : Int) ∧ l[k]? = some x ∧ Y k ≠ x.r.ct ∧ Good l Y k
theorem Good.next {l : List Dt} {Y : Nat → Rc} {k : Nat} (h : Good l Y k) {x : Dt} (hx : l[k]? = some x) (e : Y k = x.r.ct) : Good l Y (k + 1) := fun i y hi hy => by
 rcases Nat.lt_or_ge i k with h1 | h1
 ·exact h i y h1 hy
 ·obtain rfl : i = k := by omega
  rw [hx] at hy; cases hy; exact e
theorem Good.zero (l : List Dt) (Y : Nat → Rc) : Good l Y 0 := fun i _ hi => absurd hi (Nat.not_lt_zero i)
structure IR (w : World) (B M : Nat) (D : Nat → Nat) (r : Nat → Value) (v : Nat → List Vt) (xs : List Vt) : Prop where
 im : IM w B M D r v
 rel : Rel v xs
theorem IR.ext {w w' : World} {B M : Nat} {D : Nat → Nat} {r : Nat → Value} {v : Nat → List Vt} {xs : List Vt} (h : IR w B M D r v xs) (k : Ex w w') : IR w' B M D r v xs := ⟨h.im.ext k, h.rel⟩
def IRE (w : World) (B M : Nat) (D : Nat → Nat) (xs : List Vt) : Prop := ∃ r v, IR w B M D r v xs
theorem IRE.ext {w w' : World} {B M : Nat} {D : Nat → Nat} {xs : List Vt} (h : IRE w B M D xs) (k : Ex w w') : IRE w' B M D xs := by
 obtain ⟨r, v, h⟩ := h
 exact ⟨r, v, h.ext k⟩
def IDo9 (w0 : World) (M : Nat) (D : Nat → Nat) (xs : List Vt) (Y : Rc) (w : World) (e : Ending) (w' : World) : Prop := ∃ (y : Rt), e = .returned y.V ∧ y.ct = Y ∧ RI w' y ∧ IRE w' w0.heap.size M D xs ∧ Ex w0 w' ∧ (∀ (g : Nat) (t : TypeId) (cs : Array Value), Bk w g t cs → t ≠ 169 → t ≠ 36 → Bk w' g t cs)
set_option maxRecDepth 100000 in
theorem ire_do {w0 w : World} {M : Nat} {D : Nat → Nat} {xs xs' : List Vt} {Y : Rc} (h : IRE w w0.heap.size M D xs) (hM : w0.heap.size ≤ M) (hx : Ex w0 w) (q : Qt) (hq : QI w q) (hs : PStep xs q.ct Y xs') : Calls Try.prog 39 #[.pointer (some ⟨M, 0, none⟩), q.V] w (IDo9 w0 M D xs' Y w) := by
 obtain ⟨r, v, him, hr⟩ := h
 obtain ⟨s, hsh, hs16⟩ := shv_range q.id
 refine (ido_any w0.heap.size M D r v q s hsh hs16 w him hM hq).mono ?_
 intro e w' hp
 obtain ⟨y, r', v', he, h1, h2, h3, h4, h5⟩ := hp
 have ht := him.tidy hr.rightV hs16
 have hid : q.ct.id.length = 4 := hq.ok.idN
 have hsh2 : Sm.shV q.ct.id = (s : Int) := hsh
 obtain ⟨e1, hr'⟩ := hr.step hs16 ht hid hsh2 h4 hs
 have hx2 : Ex w0 w' := h5.ex9 (him.ts.tb s hs16) hx (him.ts.lo s hs16)
 have hbk : ∀ (g : Nat) (t : TypeId) (cs : Array Value), Bk w g t cs → t ≠ 169 → t ≠ 36 → Bk w' g t cs := fun g t cs hb n1 n2 => h5.kt9 (him.ts.tb s hs16) hb n1 n2
 exact ⟨y, he, e1, ⟨h1, h2.1⟩, ⟨r', v', h3, hr'⟩, hx2, hbk⟩
end Go.Proofs.Ytmjfnpmnhehnkaa
