/- Wn, Jf, Jg, Jc -/
import Derived.Test.YtmjfnpmnhehnkaaPat
import Derived.Test.YtmjfnpmnhehnkaaPar
import Derived.DeepKeys3
import Derived.WideKeyPair
import Derived.WideKeyElems
import Derived.ChangeMaps3
namespace Go.Proofs.Ytmjfnpmnhehnkaa
open Go.RowKit
/-- a row of requests that comes in -/
structure Qp.In (ad : Option Addr) (cap : Nat) (l : List Qt) (w : World) : Prop where
 len : l.length ≤ cap
 nil : ad = none → cap = 0
 ins : ∀ (i : Nat) (x : Qt), l[i]? = some x → QI w x
 read : 0 < l.length → ∃ a o, ad = some ⟨a, o, none⟩ ∧ a < w.heap.size ∧ ∀ (i : Nat) (x : Qt), l[i]? = some x → w.rangeAt a (o + i * 57) x.C
theorem Qp.In.ext {ad : Option Addr} {cap : Nat} {l : List Qt} {w w' : World} (h : Qp.In ad cap l w) (k : Ex w w') : Qp.In ad cap l w' :=
 ⟨h.len, h.nil, fun i x hx => (h.ins i x hx).ext k, fun h0 => by
  obtain ⟨a, o, e, hB, hc⟩ := h.read h0
  exact ⟨a, o, e, Nat.lt_of_lt_of_le hB k.sz, fun i x hx j v hv => (Below.cell (p := ⟨a, o + i * 57 + j, none⟩) k hB).trans (hc i x hx j v hv)⟩⟩
/-- a row of vaults that's read -/
def RV (w : World) (v : Value) (C : List Vc) : Prop := ∃ ad cap zs, v = .slice ad zs.length cap ∧ cap ≤ 9223372036854775807 ∧ Vp.In ad cap zs w ∧ (∀ (i : Nat) (x : Vt), zs[i]? = some x → VI w x) ∧ zs.map Vt.ct = C
theorem RV.ext {w w' : World} {v : Value} {C : List Vc} (h : RV w v C) (k : Ex w w') : RV w' v C := by
 obtain ⟨ad, cap, zs, h1, h2, h3, h4, h5⟩ := h
 exact ⟨ad, cap, zs, h1, h2, h3.ext k, fun i x hx => (h4 i x hx).ext k, h5⟩
theorem RV.of {w : World} {B : Nat} {v : Value} {zs : List Vt} {C : List Vc} (h : VRow w B v zs) (e : zs.map Vt.ct = C) : RV w v C := by
 obtain ⟨ad, cap, h1, h2, h3⟩ := h.inn3
 exact ⟨ad, cap, zs, h1, h3, h2, fun i x hx => (h.ins i x hx).vi, e⟩
theorem RV.own {w0 w w' : World} {P B : Nat} {rv v : Value} {xs zs : List Vt} {C : List Vc} (h : w'.ownsRow B 36 42 v zs.length (zs.flatMap Vt.C)) (hp : PB w0 w P rv xs) (k : Ex w w') (hm : ∀ x, x ∈ zs ↔ x ∈ xs) (e : zs.map Vt.ct = C) : RV w' v C := by
 have hpx : ∀ x ∈ zs, PX w0 w' x := fun x hx => by
  obtain ⟨i, hi, e⟩ := List.getElem_of_mem ((hm x).1 hx)
  exact (hp.ext k).ins i x (by rw [List.getElem?_eq_getElem hi, e])
 have hok : ∀ (i : Nat) (x : Vt), zs[i]? = some x → x.Ok := fun i x hx => (hpx x (List.mem_of_getElem? hx)).ok
 obtain ⟨ad2, cap2, e2, hn, hl, hc9, hr⟩ := own_rd h
 refine ⟨ad2, cap2, zs, e2, hc9, ⟨hl, hn, hok, fun h0 => ?_⟩, fun i x hx => (hpx x (List.mem_of_getElem? hx)).vi (Nat.le_trans hp.sz (Below.size k)), e⟩
 obtain ⟨g, o, ea, hg, hrr⟩ := hr.read h0
 refine ⟨g, o, ea, hg, fun i x hx j u hu => ?_⟩
 have hj : j < 42 := by have := (List.getElem?_eq_some_iff.1 hu).1; rw [Vt.len (hok i x hx)] at this; exact this
 have h := hrr (i * 42 + j) u (by rw [vflat_at zs hok i j x hx hj]; exact hu)
 rw [← Nat.add_assoc] at h; exact h
/-- what holds in region 14 -/
structure S14 (wd : World) (C : List Vc) (l : Array Bool) (f : Nat → Value) (w : World) : Prop where
 ex : Ex wd w
 e18 : l.getD 18 false = true → RV w (f 18) C
 e20 : l.getD 20 false = true → RV w (f 20) C
theorem S14.next {wd w w' : World} {C : List Vc} {l : Array Bool} {f : Nat → Value} {x : Value} (h : S14 wd C l f w) (k : Ex w w') (i : Nat) (hr : (i = 18 ∨ i = 20) → RV w' x C) : S14 wd C (l.setIfInBounds i true) (upd f i x) w' := by
 refine ⟨Ex.trans h.ex k, fun a => ?_, fun a => ?_⟩
 · by_cases e : i = 18
   · subst e; rw [upd_same]; exact hr (Or.inl rfl)
   rw [gset e false] at a; rw [upd_ne _ _ (Ne.symm e)]; exact (h.e18 a).ext k
 by_cases e : i = 20
 · subst e; rw [upd_same]; exact hr (Or.inr rfl)
 rw [gset e false] at a; rw [upd_ne _ _ (Ne.symm e)]; exact (h.e20 a).ext k
theorem PM.start {w0 w : World} {M P : Nat} {D : Nat → Nat} {r : Nat → Value} {v : Nat → List Vt} (h : IM w w0.heap.size M D r v) (hx : Ex w0 w) (lo : w0.heap.size ≤ P) (hb : Bk w P 134 #[.slice none 0 0]) (hv : ∀ i, i < 16 → v i = []) : PI w0 w M D P r v (.slice none 0 0) [] :=
 ⟨⟨h, ⟨hb, World.ownsRow_nil _ _ _ _, fun i x hx => by simp at hx, lo, Below.size hx⟩, (fun i hi g hg => nomatch hg), hx⟩, Rel.nil hv⟩
/-- one round: both answers, both maps -/
theorem PI.step {w0 w : World} {M P s : Nat} {D : Nat → Nat} {r1 v0r : Nat → Value} {v v1 : Nat → List Vt} {rv1 : Value} {xs xs1 : List Vt} {wb : World} (hm : IM wb w0.heap.size M D v0r v) (hr : Rel v xs) (hs : s < 16) {q : Qc} {y1 y2 : Rc} (hid : q.id.length = 4) (hsh : Sm.shV q.id = (s : Int)) (h1 : IStep v s q y1 v1) (h2 : PStep xs q y2 xs1) (h3 : PM w0 w M D P r1 v1 rv1 xs1) : y1 = y2 ∧ PI w0 w M D P r1 v1 rv1 xs1 := by
 obtain ⟨e, hr'⟩ := hr.step hs (hm.tidy hr.rightV hs) hid hsh h1 h2
 exact ⟨e, h3, hr'⟩
/-- both maps tell the same of an ID -/
theorem PI.get {w0 w : World} {M P s : Nat} {D : Nat → Nat} {r : Nat → Value} {v : Nat → List Vt} {rv : Value} {xs : List Vt} (h : PI w0 w M D P r v rv xs) (hs : s < 16) {id : List UInt8} (hid : id.length = 4) (hsh : Sm.shV id = (s : Int)) {c : Vc} {b : Bool} (hd : GetDet (v s) (idn id) c b) {x : Vt} {k : Int} (hg : GetP xs id x k) : x.ct = c ∧ decide (0 ≤ k) = b := by
 obtain ⟨hc, hb, _⟩ := cur_of (h.pm.im.tidy h.rel.rightV hs) hid hd
 obtain ⟨e, hk⟩ := h.rel.cur hs hsh hc hg
 refine ⟨e, ?_⟩
 cases b with
 | true => exact decide_eq_true (by have h1 := hb.1 rfl; have h2 : ¬ k < 0 := fun hk' => h1 (hk.1 hk'); omega)
 | false => exact decide_eq_false (by have : c = zeroVc := Classical.byContradiction (fun hne => by have := hb.2 hne; cases this); have := hk.2 this; omega)
end Go.Proofs.Ytmjfnpmnhehnkaa
namespace Go.Proofs.Ytmjfnpmnhehnkaa
open Go.RowKit
structure Dt where
  mem : Int
  q : Qt
  r : Rt
def Dt.C (x : Dt) : List Value := .int .i64 x.mem :: (x.q.C ++ x.r.C)
def Dt.V (x : Dt) : Value := .agg x.C.toArray
structure DI9 (w : World) (x : Dt) : Prop where
  q : QI w x.q
  r : RI w x.r
theorem DI9.ext {w w' : World} {x : Dt} (h : DI9 w x) (k : Ex w w') : DI9 w' x := ⟨h.q.ext k, h.r.ext k⟩
theorem Dt.len {x : Dt} (hq : x.q.Ok) (hr : x.r.Ok) : x.C.length = 68 := by
  show (x.q.C ++ x.r.C).length + 1 = 68
  rw [List.length_append, Qt.len hq, Rt.len hr]
theorem Dt.one (x : Dt) : x.C.toArray.all (·.oneCell') = true := by
  have h1 := x.q.ones
  have h2 := x.r.ones
  rw [List.all_toArray, List.all_eq_true] at h1 h2 ⊢
  intro u hu
  rcases List.mem_cons.1 hu with rfl | hu
  · rfl
  rcases List.mem_append.1 hu with hu | hu
  · exact h1 u hu
  exact h2 u hu
theorem Dt.q_at {x : Dt} : (x.C.drop 1).take x.q.C.length = x.q.C := by
  show (x.q.C ++ x.r.C).take x.q.C.length = x.q.C
  rw [List.take_left']; rfl
theorem Dt.r_at {x : Dt} (hq : x.q.Ok) : (x.C.drop 58).take x.r.C.length = x.r.C := by
  show ((x.q.C ++ x.r.C).drop 57).take x.r.C.length = x.r.C
  rw [List.drop_left' (Qt.len hq), List.take_length]
theorem Try.sizeDt : (Try.prog.info? 149).map (·.size) = some 68 := by kernel_rfl
/-- a row of deeds that is read -/
structure Dp.In (ad : Option Addr) (cap : Nat) (l : List Dt) (w : World) : Prop where
  len : l.length ≤ cap
  nil : ad = none → cap = 0
  ins : ∀ (i : Nat) (x : Dt), l[i]? = some x → DI9 w x
  read : 0 < l.length → ∃ a o, ad = some ⟨a, o, none⟩ ∧ a < w.heap.size ∧ ∀ (i : Nat) (x : Dt), l[i]? = some x → w.rangeAt a (o + i * 68) x.C
theorem Dp.In.ext {ad : Option Addr} {cap : Nat} {l : List Dt} {w w' : World} (h : Dp.In ad cap l w) (k : Ex w w') : Dp.In ad cap l w' :=
  ⟨h.len, h.nil, fun i x hx => (h.ins i x hx).ext k, fun h0 => by
    obtain ⟨a, o, e, hB, hc⟩ := h.read h0
    exact ⟨a, o, e, Nat.lt_of_lt_of_le hB k.sz, fun i x hx j v hv => (Below.cell (p := ⟨a, o + i * 68 + j, none⟩) k hB).trans (hc i x hx j v hv)⟩⟩
theorem Dp.In.take {ad : Option Addr} {cap : Nat} {l : List Dt} {w : World} (h : Dp.In ad cap l w) (n : Nat) : Dp.In ad cap (l.take n) w := by
  have hg : ∀ (i : Nat) (x : Dt), (l.take n)[i]? = some x → l[i]? = some x := fun i x hx => by
    rw [List.getElem?_take] at hx
    split at hx
    · exact hx
    cases hx
  refine ⟨Nat.le_trans (by rw [List.length_take]; exact Nat.min_le_right _ _) h.len, h.nil, fun i x hx => h.ins i x (hg i x hx), fun h0 => ?_⟩
  obtain ⟨a, o, e, hB, hc⟩ := h.read (by rw [List.length_take] at h0; omega)
  exact ⟨a, o, e, hB, fun i x hx => hc i x (hg i x hx)⟩
theorem Dp.nil9 (w : World) : Dp.In none 0 [] w := ⟨Nat.le_refl _, fun _ => rfl, fun i x hx => by simp at hx, fun h => absurd h (Nat.lt_irrefl 0)⟩
section
variable {o : Oper} {a : Act} {w : World} {K : Act → World → Prop} {Q : Exit → Act → World → Prop}
theorem ld_dr (y : Operand) (g off : Nat) (x : Dt) (hq : x.q.Ok) (hr : x.r.Ok) (ho : o.op = .load 149 y) (ha : a.eval y = .pointer (some ⟨g, off, none⟩)) (h : w.rangeAt g off x.C) (hk : K (a.put o.dst x.V) w) : o.wp Try.prog a w K Q := by
  obtain ⟨dd, hd⟩ : ∃ d, Try.prog.underlying 149 = some d ∧ d.isRow = true := ⟨_, Try.underlying149, rfl⟩
  exact wp_load_mid 149 y ho g off ha x.C dd h hd.1 hd.2 (by rw [Try.sizeDt, Dt.len hq hr]) hk
theorem st_d (x y : Operand) (g : Nat) (v : Dt) (ho : o.op = .store 149 x y) (ha : a.eval x = .pointer (some ⟨g, 0, none⟩)) (hy : a.eval y = v.V) (hq : v.q.Ok) (hr : v.r.Ok)
    {Y : Array Value} (hB : Bk w g 149 Y) (hY : Y.size = 68) (hk : ∀ w', Bk w' g 149 v.C.toArray → Only g w w' → K (a.put o.dst undef) w') : o.wp Try.prog a w K Q := by
  have hB' : Bk w g 149 Y.toList.toArray := by simpa using hB
  refine wp_stp v.C x y g 0 ho ha hy hB' (by rw [Dt.len hq hr]; simp [hY]) (by rw [Try.sizeDt, Dt.len hq hr]) v.one (fun w' h1 h2 => hk w' ?_ h2)
  have e : Y.toList.take 0 ++ v.C ++ Y.toList.drop (0 + v.C.length) = v.C := by
    rw [List.take_zero, List.nil_append, List.drop_eq_nil_of_le (by rw [Dt.len hq hr]; simp [hY]), List.append_nil]
  rw [e] at h1; exact h1
theorem ld_dq (x : Operand) (g : Nat) (v : Dt) (hq : v.q.Ok) (ho : o.op = .load 86 x) (ha : a.eval x = .pointer (some ⟨g, 1, none⟩)) (h : Bk w g 149 v.C.toArray) (hk : K (a.put o.dst v.q.V) w) : o.wp Try.prog a w K Q := by
  obtain ⟨dd, hd⟩ : ∃ d, Try.prog.underlying 86 = some d ∧ d.isRow = true := ⟨_, Try.underlying86, rfl⟩
  exact wp_ldp (C := v.C) v.q.C x g 1 dd ho ha h Dt.q_at hd.1 hd.2 (by rw [Try.sizeQt, Qt.len hq]) hk
theorem ld_drp (x : Operand) (g : Nat) (v : Dt) (hq : v.q.Ok) (hr : v.r.Ok) (ho : o.op = .load 83 x) (ha : a.eval x = .pointer (some ⟨g, 58, none⟩)) (h : Bk w g 149 v.C.toArray) (hk : K (a.put o.dst v.r.V) w) : o.wp Try.prog a w K Q := by
  obtain ⟨dd, hd⟩ : ∃ d, Try.prog.underlying 83 = some d ∧ d.isRow = true := ⟨_, Try.underlying83, rfl⟩
  exact wp_ldp (C := v.C) v.r.C x g 58 dd ho ha h (Dt.r_at hq) hd.1 hd.2 (by rw [Try.sizeRt, Rt.len hr]) hk
end
/-- what the document's map makes of deeds: its vaults ahead of each, its answers -/
structure Chain (l : List Dt) (X : Nat → List Vt) (Y : Nat → Rc) : Prop where
  zero : X 0 = []
  step : ∀ (k : Nat) (x : Dt), l[k]? = some x → PStep (X k) x.q.ct (Y k) (X (k + 1))
/-- all deeds ahead of k are as the map answers -/
def Good (l : List Dt) (Y : Nat → Rc) (k : Nat) : Prop := ∀ (i : Nat) (x : Dt), i < k → l[i]? = some x → Y i = x.r.ct
/-- the first deed that is not so -/
def FirstBad (l : List Dt) (Y : Nat → Rc) (n : Int) : Prop := (n = -1 ∧ Good l Y l.length) ∨ ∃ (k : Nat) (x : Dt), n = (k : Int) ∧ l[k]? = some x ∧ Y k ≠ x.r.ct ∧ Good l Y k
theorem Good.next {l : List Dt} {Y : Nat → Rc} {k : Nat} (h : Good l Y k) {x : Dt} (hx : l[k]? = some x) (e : Y k = x.r.ct) : Good l Y (k + 1) := fun i y hi hy => by
  rcases Nat.lt_or_ge i k with h1 | h1
  · exact h i y h1 hy
  obtain rfl : i = k := by omega
  rw [hx] at hy; cases hy; exact e
theorem Good.zero (l : List Dt) (Y : Nat → Rc) : Good l Y 0 := fun i _ hi => absurd hi (Nat.not_lt_zero i)
/-- an ideal map in memory that has the vaults xs -/
structure IR (w : World) (B M : Nat) (D : Nat → Nat) (r : Nat → Value) (v : Nat → List Vt) (xs : List Vt) : Prop where
  im : IM w B M D r v
  rel : Rel v xs
theorem IR.ext {w w' : World} {B M : Nat} {D : Nat → Nat} {r : Nat → Value} {v : Nat → List Vt} {xs : List Vt} (h : IR w B M D r v xs) (k : Ex w w') : IR w' B M D r v xs := ⟨h.im.ext k, h.rel⟩
def IRE (w : World) (B M : Nat) (D : Nat → Nat) (xs : List Vt) : Prop := ∃ r v, IR w B M D r v xs
theorem IRE.ext {w w' : World} {B M : Nat} {D : Nat → Nat} {xs : List Vt} (h : IRE w B M D xs) (k : Ex w w') : IRE w' B M D xs := by
  obtain ⟨r, v, h⟩ := h
  exact ⟨r, v, h.ext k⟩
def IDo9 (w0 : World) (M : Nat) (D : Nat → Nat) (xs : List Vt) (Y : Rc) (w : World) (e : Ending) (w' : World) : Prop := ∃ (y : Rt), e = .returned y.V ∧ y.ct = Y ∧ RI w' y ∧ IRE w' w0.heap.size M D xs ∧ Ex w0 w' ∧ (∀ (g : Nat) (t : TypeId) (cs : Array Value), Bk w g t cs → t ≠ 169 → t ≠ 36 → Bk w' g t cs)
set_option maxRecDepth 100000 in
/-- Do of such a map -/
theorem ire_do {w0 w : World} {M : Nat} {D : Nat → Nat} {xs xs' : List Vt} {Y : Rc} (h : IRE w w0.heap.size M D xs) (hM : w0.heap.size ≤ M) (hx : Ex w0 w) (q : Qt) (hq : QI w q) (hs : PStep xs q.ct Y xs') : Calls Try.prog 39 #[.pointer (some ⟨M, 0, none⟩), q.V] w (IDo9 w0 M D xs' Y w) := by
  obtain ⟨r, v, him, hr⟩ := h
  obtain ⟨s, hsh, hs16⟩ := shv_range q.id
  refine (ido_any w0.heap.size M D r v q s hsh hs16 w him hM hq).mono ?_
  intro e w' hp
  obtain ⟨y, r', v', he, h1, h2, h3, h4, h5⟩ := hp
  have ht := him.tidy hr.rightV hs16
  have hid : q.ct.id.length = 4 := hq.ok.idN
  have hsh2 : Sm.shV q.ct.id = (s : Int) := hsh
  obtain ⟨e1, hr'⟩ := hr.step hs16 ht hid hsh2 h4 hs
  have hx2 : Ex w0 w' := h5.ex9 (him.ts.tb s hs16) hx (him.ts.lo s hs16)
  have hbk : ∀ (g : Nat) (t : TypeId) (cs : Array Value), Bk w g t cs → t ≠ 169 → t ≠ 36 → Bk w' g t cs := fun g t cs hb n1 n2 => h5.kt9 (him.ts.tb s hs16) hb n1 n2
  exact ⟨y, he, e1, ⟨h1, h2.1⟩, ⟨r', v', h3, hr'⟩, hx2, hbk⟩
end Go.Proofs.Ytmjfnpmnhehnkaa
namespace Go.Proofs.Ytmjfnpmnhehnkaa
open Go.RowKit
structure S81 (w0 : World) (M : Nat) (D : Nat → Nat) (g : Nat) (x : Dt) (Xk Xn : List Vt) (Y : Rc) (l : Array Bool) (f : Nat → Value) (w : World) : Prop where
  bk : Bk w g 149 x.C.toArray
  ex : Ex w0 w
  di : DI9 w x
  a : l.getD 3 false = false → IRE w w0.heap.size M D Xk
  b : l.getD 3 false = true → ∃ y : Rt, f 3 = y.V ∧ y.ct = Y ∧ RI w y ∧ IRE w w0.heap.size M D Xn
theorem S81.next {w0 : World} {M : Nat} {D : Nat → Nat} {g : Nat} {x : Dt} {Xk Xn : List Vt} {Y : Rc} {l : Array Bool} {f : Nat → Value} {w w' : World} (h : S81 w0 M D g x Xk Xn Y l f w) (k : Ex w w') (i : Nat) (v : Value) (hi : i ≠ 3) : S81 w0 M D g x Xk Xn Y (l.setIfInBounds i true) (upd f i v) w' :=
  ⟨h.bk.ext k, Ex.trans h.ex k, h.di.ext k, fun e => (h.a (by rw [gset hi false] at e; exact e)).ext k, fun e => by
    rw [gset hi false] at e
    obtain ⟨y, h1, h2, h3, h4⟩ := h.b e
    exact ⟨y, by rw [upd_ne _ _ (Ne.symm hi)]; exact h1, h2, h3.ext k, h4.ext k⟩⟩
theorem S81.do {w0 : World} {M : Nat} {D : Nat → Nat} {g : Nat} {x : Dt} {Xk Xn : List Vt} {Y : Rc} {l : Array Bool} {f : Nat → Value} {w w' : World} {y : Rt} (h : S81 w0 M D g x Xk Xn Y l f w) (hl : 3 < l.size) (h0 : DI9 w0 x) (h2 : y.ct = Y) (h3 : RI w' y) (h4 : IRE w' w0.heap.size M D Xn) (h5 : Ex w0 w') (h6 : ∀ (g : Nat) (t : TypeId) (cs : Array Value), Bk w g t cs → t ≠ 169 → t ≠ 36 → Bk w' g t cs) : S81 w0 M D g x Xk Xn Y (l.setIfInBounds 3 true) (upd f 3 y.V) w' :=
  ⟨h6 _ _ _ h.bk (by decide) (by decide), h5, h0.ext h5, fun e => by (rw [set_new hl] at e; cases e), fun _ => ⟨y, upd_same _ _ _, h2, h3, h4⟩⟩
def CheckPost (l : List Dt) (Y : Nat → Rc) (w : World) (e : Ending) (w' : World) : Prop := ∃ n : Int, e = .returned (.int .i64 n) ∧ FirstBad l Y n ∧ Ex w w'
def FinalPost (xs : List Vt) (w : World) (e : Ending) (w' : World) : Prop := ∃ (v : Value) (ys : List Vt), e = .returned v ∧ VRow w' w.heap.size v ys ∧ ys.length = xs.length ∧ (∀ c, c ∈ ys.map Vt.ct ↔ c ∈ xs.map Vt.ct) ∧ Ex w w'
set_option maxHeartbeats 8000000 in
set_option maxRecDepth 100000 in
theorem check_any (ad : Option Addr) (cap : Nat) (l : List Dt) (X : Nat → List Vt) (Y : Nat → Rc) (w : World) (hL : l.length ≤ 9223372036854775807) (hin : Dp.In ad cap l w) (hc : Chain l X Y) : Calls Try.prog 81 #[.slice ad l.length cap] w (CheckPost l Y w) := by
  obtain ⟨n, hn⟩ : ∃ n, n = l.length := ⟨_, rfl⟩
  rw [← hn] at hL
  have HN := Lib.hid hn
  have HIN := Lib.hid hin
  have HC := Lib.hid hc
  rw [show (Value.slice ad l.length cap) = .slice ad n cap by rw [hn]]
  clear hin hc
  clear hn
  go_enter Try.func81, Try.ntmps81
  go_wp2_with ((with_reducible refine so2 [149, 1000+149] ?_ ?_); (focus rfl))
  refine (inew_any w).mono ?_
  rintro e w1 ⟨M, D, r, v, rfl, h1, h2, h3, h4⟩
  have HIM : Hid (IRE w1 w.heap.size M D (X 0)) := Lib.hid ⟨r, v, h1, by rw [HC.out.zero]; exact Rel.nil h3⟩
  have HM := Lib.hid h2
  have B0 := Lib.hid h4
  clear h1 h2 h3 h4
  go_wp2_with fail
  go_loopw [9] (fun i wr => ∃ k : Nat, k ≤ n ∧ i = .int .i64 k ∧ Hid (IRE wr w.heap.size M D (X k)) ∧ Hid (Ex w wr) ∧ Hid (Good l Y k)) (fun i _ => n - (intOf i).toNat)
  case atStart => exact ⟨0, by omega, rfl, HIM, B0, Lib.hid (Good.zero l Y)⟩
  case round =>
    clear HIM B0
    obtain ⟨k, hk, rfl, HR, BX, HG⟩ := hrel
    by_cases hlt : k < n
    · obtain ⟨ab, ofs, rfl, ha, hcc⟩ := HIN.out.read (by rw [← HN.out]; omega)
      obtain ⟨x, hx⟩ : ∃ x, l[k]? = some x := ⟨_, List.getElem?_eq_getElem (by rw [← HN.out]; exact hlt)⟩
      have HX := Lib.hid hx
      have XI := Lib.hid (HIN.out.ins k x hx)
      have XR : Hid (wr.rangeAt ab (ofs + k * 68) x.C) := Lib.hid (fun j u hu => (Below.cell (p := ⟨ab, ofs + k * 68 + j, none⟩) BX.out ha).trans (hcc k x hx j u hu))
      clear hcc hx ha
      have q0 : (0 : Int) ≤ (k : Int) := by omega
      have q1 : (k : Int) < (n : Int) := by omega
      go_wp2_with ((with_reducible refine so2 [149, 1000+149] ?_ ?_); (focus rfl))
      (with_reducible refine at9 ?_ ?_); (focus go_simp); refine fun K0 hK => ld_dr _ ab (ofs + k * 68) x XI.out.q.ok XI.out.r.ok rfl rfl XR.out (hK _ _ ?_)
      clear hK
      go_wp2_with ((with_reducible refine so2 [149, 1000+149] ?_ ?_); (focus rfl))
      (with_reducible refine at9 ?_ ?_); (focus go_simp); refine fun K0 hK => st_d _ _ wr.heap.size x rfl rfl rfl XI.out.q.ok XI.out.r.ok (Bk.new rfl _ _) (by rfl) (fun w3 hd ho => hK _ _ ?_)
      clear hK
      have x3 : Ex wr w3 := ho.below wr.heap.size (Nat.le_refl _) wr (Ex.alloc wr _)
      have HD := Lib.hid hd
      obtain ⟨g, hg⟩ : ∃ g, g = wr.heap.size := ⟨_, rfl⟩
      replace HR := Lib.hid (HR.out.ext x3)
      rw [← hg] at HD ⊢
      replace BX := Lib.hid (Ex.trans BX.out x3)
      have HST := Lib.hid (HC.out.step k x HX.out)
      clear hd ho hg x3 XR
      go_wp2_with fail
      obtain ⟨b, hb⟩ : ∃ b, b = decide (Y k = x.r.ct) := ⟨_, rfl⟩
      have HB := Lib.hid hb
      clear hb
      have XW := Lib.hid (XI.out.ext BX.out)
      have hS0 : ∀ (listed : Array Bool) (f : Nat → Value), (∀ i, listed.getD i false = false) → S81 w M D g x (X k) (X (k + 1)) (Y k) listed f w3.drew := fun listed f h0 => by
        have xd : Ex w3 w3.drew := (Below.refl w3.heap.size w3).drew
        exact ⟨HD.out.ext xd, Ex.trans BX.out xd, XW.out.ext xd, fun _ => HR.out.ext xd, fun e => by rw [h0 3] at e; cases e⟩
      obtain ⟨T, hT⟩ : ∃ T : List (Value → Prop), T = [(fun zz => zz = .pointer (some ⟨M, 0, none⟩)), (fun zz => zz = .pointer (some ⟨g, 1, none⟩)), (fun zz => zz = x.q.V), (fun _ => True), (fun zz => zz = .pointer (some ⟨g, 58, none⟩)), (fun zz => zz = x.r.V), (fun zz => zz = .bool b), (fun zz => zz = .bool (!b))] := ⟨_, rfl⟩
      refine wp_region_gen (JS T ([] : List (Nat × Nat)) (fun lz fz wz => S81 w M D g x (X k) (X (k + 1)) (Y k) lz fz wz)) (by kernel_rfl) (by kernel_rfl) (by kernel_rfl) (fitB_spec (by kernel_rfl)) (fun listed f h => JS.start listed f h (hS0 listed f h)) ?_ ?_
      · intro i o ho
        have hi : i < 8 := (Array.getElem?_eq_some_iff.1 ho).1
        have hi' : i = 0 ∨ i = 1 ∨ i = 2 ∨ i = 3 ∨ i = 4 ∨ i = 5 ∨ i = 6 ∨ i = 7 := by omega
        clear hi
        rcases hi' with rfl | rfl | rfl | rfl | rfl | rfl | rfl | rfl
        all_goals (simp only [List.getElem?_toArray, List.getElem?_cons_zero, List.getElem?_cons_succ, Option.some.injEq] at ho; subst ho; intro listed f a w4 hJ hsz hls hun hdep hout hlat; first | (rw [if_pos (by rfl)]; intro K hK) | skip)
        · have q3 := hout 3 (outB_spec (by kernel_rfl))
          have hord : ∀ x ∈ ([] : List (Nat × Nat)), x.1 = 0 → listed.getD x.2 false = true := by simp
          refine wp_mv _ rfl (hK _ _ ?_)
          rw [show a.eval (.tmp 3) = .pointer (some ⟨M, 0, none⟩) from q3]
          exact hJ.next (by rw [hls]; decide) (by rw [hT]; rfl) (S81.next hJ.st (Ex.refl _) 0 _ (by decide)) hord
        · have q5 := hout 5 (outB_spec (by kernel_rfl))
          have hord : ∀ x ∈ ([] : List (Nat × Nat)), x.1 = 1 → listed.getD x.2 false = true := by simp
          rw [Array.getD_eq_getD_getElem?] at q5
          clear hsz hdep hout hlat
          go_simp
          exact hK _ _ (hJ.next (by rw [hls]; decide) (by rw [hT]; first | rfl | exact congrArg (Value.int .i64) (by omega) | exact congrArg (Value.int .i64) (by rw [IntKind.wrap_i64]; omega) | exact congrArg Value.bool (decide_eq_false (by omega)) | exact congrArg Value.bool (decide_eq_true (by omega)) | exact congrArg (Value.int .u64) (by omega)) (S81.next hJ.st (Ex.refl _) 1 _ (by decide)) hord)
        · have q15 := hJ.is hT (hdep ⟨1, .data⟩ (by simp) rfl) rfl _ rfl _ rfl
          have hord : ∀ x ∈ ([] : List (Nat × Nat)), x.1 = 2 → listed.getD x.2 false = true := by simp
          exact ld_dq _ g x XI.out.q.ok rfl q15 hJ.st.bk (hK _ _ (hJ.next (by rw [hls]; decide) (by rw [hT]; rfl) (S81.next hJ.st (Ex.refl _) 2 _ (by decide)) hord))
        · have q14 := hJ.is hT (hdep ⟨0, .data⟩ (by simp) rfl) rfl _ rfl _ rfl
          have q16 := hJ.is hT (hdep ⟨2, .data⟩ (by simp) rfl) rfl _ rfl _ rfl
          have hord : ∀ x ∈ ([] : List (Nat × Nat)), x.1 = 3 → listed.getD x.2 false = true := by simp
          rw [Array.getD_eq_getD_getElem?] at q14
          rw [Array.getD_eq_getD_getElem?] at q16
          have hst := hJ.st
          clear hsz hdep hout hlat
          go_simp
          refine (ire_do (hst.a hun) HM.out hst.ex x.q hst.di.q HST.out).mono ?_
          rintro e w5 ⟨y, rfl, h1, h2, h3, h4, h5⟩
          exact hK _ _ (hJ.next (by rw [hls]; decide) (by rw [hT]; trivial) (S81.do hst (by rw [hls]; decide) XI.out h1 h2 h3 h4 h5) hord)
        · have q5 := hout 5 (outB_spec (by kernel_rfl))
          have hord : ∀ x ∈ ([] : List (Nat × Nat)), x.1 = 4 → listed.getD x.2 false = true := by simp
          rw [Array.getD_eq_getD_getElem?] at q5
          clear hsz hdep hout hlat
          go_simp
          exact hK _ _ (hJ.next (by rw [hls]; decide) (by rw [hT]; first | rfl | exact congrArg (Value.int .i64) (by omega) | exact congrArg (Value.int .i64) (by rw [IntKind.wrap_i64]; omega) | exact congrArg Value.bool (decide_eq_false (by omega)) | exact congrArg Value.bool (decide_eq_true (by omega)) | exact congrArg (Value.int .u64) (by omega)) (S81.next hJ.st (Ex.refl _) 4 _ (by decide)) hord)
        · have q18 := hJ.is hT (hdep ⟨4, .data⟩ (by simp) rfl) rfl _ rfl _ rfl
          have hord : ∀ x ∈ ([] : List (Nat × Nat)), x.1 = 5 → listed.getD x.2 false = true := by simp
          exact ld_drp _ g x XI.out.q.ok XI.out.r.ok rfl q18 hJ.st.bk (hK _ _ (hJ.next (by rw [hls]; decide) (by rw [hT]; rfl) (S81.next hJ.st (Ex.refl _) 5 _ (by decide)) hord))
        · have dd17 := hdep ⟨3, .data⟩ (by simp) rfl
          have q17 := dd17.2 _ rfl _ rfl
          have q19 := hJ.is hT (hdep ⟨5, .data⟩ (by simp) rfl) rfl _ rfl _ rfl
          have hord : ∀ x ∈ ([] : List (Nat × Nat)), x.1 = 6 → listed.getD x.2 false = true := by simp
          obtain ⟨y, e3, c3, r3, _⟩ := hJ.st.b (hdep ⟨3, .data⟩ (by simp) rfl).1
          rw [e3] at q17
          rw [Array.getD_eq_getD_getElem?] at q17
          rw [Array.getD_eq_getD_getElem?] at q19
          have hst := hJ.st
          clear hsz hdep hout hlat
          go_simp
          refine (jsame_any y x.r w4 r3 hst.di.r).mono ?_
          rintro e w5 ⟨rfl, x5⟩
          exact hK _ _ (hJ.next (by rw [hls]; decide) (by rw [hT]; exact congrArg Value.bool (by rw [c3]; exact HB.out.symm)) (S81.next hst x5 6 _ (by decide)) hord)
        have q20 := hJ.is hT (hdep ⟨6, .data⟩ (by simp) rfl) rfl _ rfl _ rfl
        have hord : ∀ x ∈ ([] : List (Nat × Nat)), x.1 = 7 → listed.getD x.2 false = true := by simp
        rw [Array.getD_eq_getD_getElem?] at q20
        clear hsz hdep hout hlat
        go_simp
        exact hK _ _ (hJ.next (by rw [hls]; decide) (by rw [hT]; first | rfl | exact congrArg (Value.int .i64) (by omega) | exact congrArg (Value.int .i64) (by rw [IntKind.wrap_i64]; omega) | exact congrArg Value.bool (decide_eq_false (by omega)) | exact congrArg Value.bool (decide_eq_true (by omega)) | exact congrArg (Value.int .u64) (by omega)) (S81.next hJ.st (Ex.refl _) 7 _ (by decide)) hord)
      intro listed f w4 hall hJ
      have f7 : f 7 = .bool (!b) := by
        have h := hJ.vals 7 (hall 7 (by simp))
        rw [hT] at h; exact h
      have hst := hJ.st
      simp only [putAll, Act.put, List.setIfInBounds_toArray, List.set_cons_zero, List.set_cons_succ, Nat.zero_add, Nat.reduceAdd]
      obtain ⟨y9, _, _, _, hr9⟩ := hst.b (hall 3 (by simp))
      have HR2 := Lib.hid hr9
      have BX2 := Lib.hid hst.ex
      clear hst hS0 hr9
      rw [f7]
      clear f7
      clear hJ hall hT
      generalize f 0 = y0
      generalize f 1 = y1
      generalize f 2 = y2
      generalize f 3 = y3
      generalize f 4 = y4
      generalize f 5 = y5
      generalize f 6 = y6
      cases b
      · have HNE : Hid (Y k ≠ x.r.ct) := Lib.hid (of_decide_eq_false HB.out.symm)
        go_wp2_with fail
        go_ret
        exact ⟨(k : Int), rfl, Or.inr ⟨k, x, rfl, HX.out, HNE.out, HG.out⟩, BX2.out⟩
      have HE : Hid (Y k = x.r.ct) := Lib.hid (of_decide_eq_true HB.out.symm)
      go_wp2_with fail
      go_roundw
      case rel => exact ⟨k + 1, by omega, by go_num, HR2, BX2, Lib.hid (HG.out.next HX.out HE.out)⟩
      case measure => simp [intOf]; omega
    obtain rfl : k = n := by omega
    have q1 : ¬ (k : Int) < (k : Int) := by omega
    go_wp2_with fail
    go_ret
    exact ⟨-1, rfl, Or.inl ⟨rfl, by rw [← HN.out]; exact HG.out⟩, BX.out⟩
end Go.Proofs.Ytmjfnpmnhehnkaa
namespace Go.Proofs.Ytmjfnpmnhehnkaa
section
open Go.RowKit Go.ChangeShapes Go.WideShapes Go.WideMaps Go.MapKept
open Go.ChangeMaps (setBlock heap_setBlock_same heap_setBlock_other)
theorem Try.tysz2 : ∃ m, Try.prog.types.size = m + 2 := ⟨Try.prog.types.size - 2, by
  have h : decide (1 < Try.prog.types.size) = true := by kernel_rfl
  have := of_decide_eq_true h
  omega⟩
theorem lawLife : KeyLaw Try.prog 153 := deep_law (m := 3) (by omega) (by kernel_rfl) (by kernel_rfl) (by rw [Try.underlying153])
theorem keyTLife : Try.prog.keyType 153 = true := by kernel_rfl
theorem wf_u8 (a : UInt8) : (Lit.int .u8 (a.toNat : Int)).wf = true := by
  have := a.toNat_lt
  simp [Lit.wf, IntKind.min, IntKind.max, IntKind.signed, IntKind.bits]
  omega
theorem wf_u64' {g : Int} (h : 0 ≤ g ∧ g < 18446744073709551616) : (Lit.int .u64 g).wf = true := by
  simp [Lit.wf, IntKind.min, IntKind.max, IntKind.signed, IntKind.bits]
  omega
theorem Try.cellsLife : Try.prog.cellsOf 153 = 5 := by kernel_rfl
theorem Try.cellsId : Try.prog.cellsOf 32 = 4 := by kernel_rfl
theorem Try.cellsU64 : Try.prog.cellsOf 24 = 1 := by kernel_rfl
theorem key5 {id : List UInt8} {g : Int} (h : id.length = 4) (hg : 0 ≤ g ∧ g < 18446744073709551616) : ∃ l, keyOf Try.prog 153 (lifeV id g) = some l := by
  obtain ⟨a, b, c, d, rfl⟩ := len4 h
  obtain ⟨m, hm⟩ := Try.tysz2
  have hI : Try.prog.keyLits (m + 2) 32 [.int .u8 (a.toNat : Int), .int .u8 (b.toNat : Int), .int .u8 (c.toNat : Int), .int .u8 (d.toNat : Int)] = some [.int .u8 (a.toNat : Int), .int .u8 (b.toNat : Int), .int .u8 (c.toNat : Int), .int .u8 (d.toNat : Int)] := by
    unfold Program.keyLits
    simp only [Try.underlying32]
    rw [if_pos (by rw [Try.cellsId]; rfl), show List.range 4 = [0, 1, 2, 3] from rfl, List.mapM_cons, List.mapM_cons, List.mapM_cons, List.mapM_cons, List.mapM_nil]
    simp [Try.cells5, Program.keyLits, Try.underlying5, wf_u8]
  have hG : Try.prog.keyLits (m + 2) 24 [.int .u64 g] = some [.int .u64 g] := by
    unfold Program.keyLits
    simp [Try.underlying24, wf_u64' hg]
  refine ⟨.string (keyBytes [.int .u8 (a.toNat : Int), .int .u8 (b.toNat : Int), .int .u8 (c.toNat : Int), .int .u8 (d.toNat : Int), .int .u64 g]), ?_⟩
  show keyOf Try.prog 153 (.agg #[.int .u8 (a.toNat : Int), .int .u8 (b.toNat : Int), .int .u8 (c.toNat : Int), .int .u8 (d.toNat : Int), .int .u64 g]) = _
  unfold keyOf
  rw [under153x]
  simp only []
  rw [if_pos (by simp [keyTLife, Value.formed, under153x, Try.cellsLife]), hm]
  unfold Program.keyLits
  rw [under153x]
  simp only [Value.cells]
  refine Eq.trans (congrArg (Option.map _) (if_pos ⟨by rw [Try.cellsLife]; rfl, by rw [← Array.all_toList, fields153x_is]; rfl⟩)) ?_
  rw [fields153x_is]
  unfold fields153x
  rw [List.mapM_cons, List.mapM_cons, List.mapM_nil]
  simp only [Try.cellsId, Try.cellsU64]
  simp only [List.drop_zero, List.take_succ_cons, List.take_zero, List.drop_succ_cons, hI, hG]
  rfl
def LP (p : List UInt8 × Int) : Prop := p.1.length = 4 ∧ 0 ≤ p.2 ∧ p.2 < 18446744073709551616
theorem lifeV_inj {x y : List UInt8} {g n : Int} (hx : x.length = 4) (hy : y.length = 4) (h : lifeV x g = lifeV y n) : x = y ∧ g = n := by
  have h1 : lifeC x g = lifeC y n := by
    have := Value.agg.inj h
    simpa using this
  unfold lifeC at h1
  have h2 := List.append_inj h1 (by rw [byteCells_len, byteCells_len, hx, hy])
  refine ⟨?_, by have := h2.2; simpa using this⟩
  have h3 := h2.1
  unfold Lib.byteCells at h3
  refine (List.map_inj_right (fun a b e => ?_)).1 h3
  have : (a.toNat : Int) = b.toNat := by injection e
  exact UInt8.toNat_inj.1 (by omega)
/-- a map's entries: the set S -/
structure EL (es : Array MapEntry) (S : List (List UInt8 × Int)) : Prop where
  keys : ∀ e ∈ es.toList, ∃ p ∈ S, e.key = lifeV p.1 p.2 ∧ e.val = .agg #[]
  all : ∀ p ∈ S, ∃ e ∈ es.toList, e.key = lifeV p.1 p.2
  lp : ∀ p ∈ S, LP p
theorem EL.law {es : Array MapEntry} {S : List (List UInt8 × Int)} (h : EL es S) : ∀ e ∈ es.toList, ∃ l, keyOf Try.prog 153 e.key = some l := fun e he => by
  obtain ⟨p, hp, h2, _⟩ := h.keys e he
  rw [h2]; exact key5 (h.lp p hp).1 (h.lp p hp).2
theorem EL.push {es : Array MapEntry} {S : List (List UInt8 × Int)} {c : Nat} (h : EL es S) {p : List UInt8 × Int} (hp : LP p) : EL (es.push ⟨lifeV p.1 p.2, .agg #[], c⟩) (p :: S) := by
  refine ⟨fun e he => ?_, fun q hq => ?_, fun q hq => ?_⟩
  · rw [Array.toList_push, List.mem_append, List.mem_singleton] at he
    rcases he with he | rfl
    · obtain ⟨q, h1, h2⟩ := h.keys e he
      exact ⟨q, List.mem_cons_of_mem _ h1, h2⟩
    exact ⟨p, List.mem_cons_self, rfl, rfl⟩
  · rcases List.mem_cons.1 hq with rfl | hq
    · exact ⟨⟨lifeV q.1 q.2, .agg #[], c⟩, by rw [Array.toList_push]; simp, rfl⟩
    obtain ⟨e, he, h2⟩ := h.all q hq
    exact ⟨e, by rw [Array.toList_push, List.mem_append]; exact Or.inl he, h2⟩
  rcases List.mem_cons.1 hq with rfl | hq
  · exact hp
  exact h.lp q hq
/-- block b is such a map -/
def BL (w : World) (b : Nat) (S : List (List UInt8 × Int)) : Prop := ∃ es clock, w.heap[b]? = some (.map es clock) ∧ EL es S
theorem BL.lt {w : World} {b : Nat} {S : List (List UInt8 × Int)} (h : BL w b S) : b < w.heap.size := by
  obtain ⟨es, c, h1, _⟩ := h
  exact (Array.getElem?_eq_some_iff.1 h1).1
theorem BL.ext {w w' : World} {b : Nat} {S : List (List UInt8 × Int)} (h : BL w b S) (k : Ex w w') : BL w' b S := by
  have hb := h.lt
  obtain ⟨es, c, h1, h2⟩ := h
  exact ⟨es, c, (k.block b hb).trans h1, h2⟩
theorem bl_new (w : World) : BL (w.alloc (.map #[] 0)) w.heap.size [] := ⟨#[], 0, by unfold World.alloc; exact Array.getElem?_push_size, ⟨fun e h => by simp at h, fun p h => by simp at h, fun p h => by simp at h⟩⟩
theorem only_set {w : World} {b : Nat} (o : Obj) (hb : b < w.heap.size) : Only b w (setBlock w b o) := by
  refine ⟨fun B hB a ha => ?_, fun h hne => ?_, ?_⟩
  · refine ha.trans ⟨rfl, rfl, rfl, ?_, fun k hk => ?_⟩
    · show w.heap.size ≤ (w.heap.setIfInBounds b o).size; simp
    show (w.heap.setIfInBounds b o)[k]? = _
    rw [Array.getElem?_setIfInBounds_ne (by omega)]
  · show (w.heap.setIfInBounds b o)[h]? = _
    rw [Array.getElem?_setIfInBounds_ne (fun e => hne e.symm)]
  show (w.heap.setIfInBounds b o).size = _; simp
theorem set_at {w : World} {b : Nat} (o : Obj) (hb : b < w.heap.size) : (setBlock w b o).heap[b]? = some o := by
  show (w.heap.setIfInBounds b o)[b]? = _
  rw [Array.getElem?_setIfInBounds_self_of_lt hb]
theorem zeroE (w : World) : (zeroValue 157).run Try.prog w = .ok (.agg #[]) w := by kernel_rfl
open Classical in
theorem BL.lookup {w : World} {b : Nat} {S : List (List UInt8 × Int)} (h : BL w b S) {p : List UInt8 × Int} (hp : LP p) : (Instr.lookup 156 (.map (some b)) (lifeV p.1 p.2) true).run Try.prog w = .ok (.tuple #[.agg #[], .bool (decide (p ∈ S))]) w := by
  obtain ⟨es, clock, hb, he⟩ := h
  obtain ⟨kl, hkey⟩ := key5 hp.1 hp.2
  rcases lawLife.find w hkey es.toList he.law with ⟨h1, h2⟩ | ⟨j, e0, h1, h2, h3⟩
  · have hn : ¬ p ∈ S := fun hps => by
      obtain ⟨e, h4, h5⟩ := he.all p hps
      exact h2 e h4 h5
    simp [Instr.lookup, run_underlying Try.underlying156, MapKept.run_getObj_map hb, lawLife.check w _ hkey, h1, zeroE, Result.andThen, hn]
  obtain ⟨q, a1, a2, a3⟩ := he.keys e0 (List.mem_of_getElem? h2)
  have h4 := lifeV_inj (he.lp q a1).1 hp.1 (a2.symm.trans h3)
  have : q = p := Prod.ext h4.1 h4.2
  subst this
  simp [Instr.lookup, run_underlying Try.underlying156, MapKept.run_getObj_map hb, lawLife.check w _ hkey, h1, Result.andThen, a3, a1]
theorem set_self8 {α : Type} : ∀ (l : List α) (j : Nat) (a : α), l[j]? = some a → l.set j a = l
  | [], _, _, h => by simp at h
  | b :: r, 0, a, h => by simp at h; subst h; rfl
  | b :: r, j + 1, a, h => by simp at h; simp [set_self8 r j a h]
theorem BL.update {w : World} {b : Nat} {S : List (List UInt8 × Int)} (h : BL w b S) {p : List UInt8 × Int} (hp : LP p) :
    ∃ w', (Instr.mapUpdate 156 (.map (some b)) (lifeV p.1 p.2) (.agg #[])).run Try.prog w = .ok () w' ∧ BL w' b (p :: S) ∧ Only b w w' := by
  have hblt := h.lt
  obtain ⟨es, clock, hb, he⟩ := h
  obtain ⟨kl, hkey⟩ := key5 hp.1 hp.2
  rcases lawLife.find w hkey es.toList he.law with ⟨h1, h2⟩ | ⟨j, e0, h1, h2, h3⟩
  · exact ⟨setBlock w b (.map (es.push ⟨lifeV p.1 p.2, .agg #[], clock⟩) (clock + 1)), by simp [Instr.mapUpdate, run_underlying Try.underlying156, MapKept.run_getObj_map hb, lawLife.check w false hkey, h1, MapKept.run_setObj_map _ hb, Result.andThen, setBlock], ⟨_, _, set_at _ hblt, he.push hp⟩, only_set _ hblt⟩
  have hj : es[j]? = some e0 := by simpa using h2
  obtain ⟨q, a1, a2, a3⟩ := he.keys e0 (List.mem_of_getElem? h2)
  have h4 := lifeV_inj (he.lp q a1).1 hp.1 (a2.symm.trans h3)
  have : q = p := Prod.ext h4.1 h4.2
  subst this
  have hsame : es.modify j (fun e' => { e' with key := lifeV q.1 q.2, val := .agg #[] }) = es := by
    apply Array.ext'
    rw [Array.toList_modify, Go.ChangeMaps.modify_eq_set _ _ _ _ h2]
    have : ({ e0 with key := lifeV q.1 q.2, val := .agg #[] } : MapEntry) = e0 := by rw [← h3, ← a3]
    rw [this]
    exact set_self8 _ _ _ h2
  exact ⟨setBlock w b (.map es clock), by simp [Instr.mapUpdate, run_underlying Try.underlying156, MapKept.run_getObj_map hb, lawLife.check w false hkey, h1, hj, h3, lawLife.stays w hkey, hsame, MapKept.run_setObj_map _ hb, Result.andThen, setBlock], ⟨es, clock, set_at _ hblt, ⟨fun e h => by obtain ⟨p, h5, h6⟩ := he.keys e h; exact ⟨p, List.mem_cons_of_mem _ h5, h6⟩, fun p h5 => by rcases List.mem_cons.1 h5 with rfl | h5; exact ⟨e0, List.mem_of_getElem? h2, a2⟩; exact he.all p h5, fun p h5 => by rcases List.mem_cons.1 h5 with rfl | h5; exact hp; exact he.lp p h5⟩⟩, only_set _ hblt⟩
section
variable {o : Oper} {a : Act} {w : World} {K : Act → World → Prop} {Q : Exit → Act → World → Prop}
open Classical in
theorem wp_llk (m x : Operand) (ho : o.op = .lookup 156 m x true) (b : Nat) (S : List (List UInt8 × Int)) (h : BL w b S) (p : List UInt8 × Int) (hp : LP p) (hm : a.eval m = .map (some b)) (hx : a.eval x = lifeV p.1 p.2)
    (hk : K (a.put o.dst (.tuple #[.agg #[], .bool (decide (p ∈ S))])) w) : o.wp Try.prog a w K Q := by
  have hrun := h.lookup hp
  unfold Oper.wp
  simp [execOp, ho, hm, hx, hrun, Result.andThen]
  exact hk
theorem wp_lup (m x v : Operand) (ho : o.op = .mapUpdate 156 m x v) (b : Nat) (S : List (List UInt8 × Int)) (h : BL w b S) (p : List UInt8 × Int) (hp : LP p) (hm : a.eval m = .map (some b)) (hx : a.eval x = lifeV p.1 p.2) (hv : a.eval v = .agg #[])
    (hk : ∀ w', BL w' b (p :: S) → Only b w w' → K (a.put o.dst undef) w') : o.wp Try.prog a w K Q := by
  obtain ⟨w', hrun, h1, h2⟩ := h.update hp
  unfold Oper.wp
  simp [execOp, ho, hm, hx, hv, hrun, Result.andThen]
  exact hk w' h1 h2
end
section
variable {P : Program} {ops : Array Oper} {rest : List Oper} {d : Option Tmp} {t2 : TypeId} {pos : String} {af : Array Edge} {g : Option (Nat × Bool)} {a : Act} {w : World} {Q : Exit → Act → World → Prop}
theorem stop_mu {t : TypeId} {m x y : Operand} (k : Stop (wpList P ops Q ({ dst := d, op := .mapUpdate t m x y, type := t2, pos := pos, after := af, guard := g } :: rest) a w)) : wpList P ops Q ({ dst := d, op := .mapUpdate t m x y, type := t2, pos := pos, after := af, guard := g } :: rest) a w := k.go
theorem stop_lk {t : TypeId} {m x : Operand} {c : Bool} (k : Stop (wpList P ops Q ({ dst := d, op := .lookup t m x c, type := t2, pos := pos, after := af, guard := g } :: rest) a w)) : wpList P ops Q ({ dst := d, op := .lookup t m x c, type := t2, pos := pos, after := af, guard := g } :: rest) a w := k.go
end
end
end Go.Proofs.Ytmjfnpmnhehnkaa
