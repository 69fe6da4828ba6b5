/- roster.next -/
import Derived.Test.YtgoiidpcdifojaaRoD
import Derived.Test.YtgoiidpcdifojaaFlC
namespace Go.Proofs.Ytgoiidpcdifojaa
open Go.RowKit
theorem Pt.In.ext {p : Pt} {w w' : World} (h : p.In w w.heap.size) (k : Ex w w') : p.In w' w'.heap.size := (h.keep k).more k.size
theorem below_setCells {B b : Nat} {a : World} : ∀ (vs : List Value) (o : Nat) (w : World), B ≤ b → Below B a w → Below B a (w.setCells b o vs)
  | [], _, _, _, h => h
  | v :: r, o, w, hb, h => below_setCells r (o + 1) (w.setCell ⟨b, o, none⟩ v) hb (h.setCell (p := ⟨b, o, none⟩) hb v)
/-- a store lays one block anew -/
structure Only (g : Nat) (w w' : World) : Prop where
  below : ∀ B, B ≤ g → ∀ a, Below B a w → Below B a w'
  other : ∀ h, h ≠ g → w'.heap[h]? = w.heap[h]?
  size : w'.heap.size = w.heap.size
theorem Only.setCells (g : Nat) : ∀ (vs : List Value) (o : Nat) (w : World), Only g w (w.setCells g o vs)
  | [], _, _ => ⟨fun _ _ _ h => h, fun _ _ => rfl, rfl⟩
  | v :: r, o, w => by
    have h := Only.setCells g r (o + 1) (w.setCell ⟨g, o, none⟩ v)
    refine ⟨fun B hB a k => below_setCells (v :: r) o w hB k, fun i hi => (h.other i hi).trans ?_, h.size.trans (by simp [World.setCell])⟩
    simp [World.setCell, Array.getElem?_modify, Ne.symm hi]
theorem Only.bk {g h : Nat} {w w' : World} {t : TypeId} {cs : Array Value} (k : Only g w w') (hb : Bk w h t cs) (hne : h ≠ g) : Bk w' h t cs := (k.other h hne).trans hb
structure Stop (p : Prop) : Prop where go : p
theorem at_any {P : Program} {ops : Array Oper} {rest : List Oper} {d : Option Tmp} {x : Op} {t2 : TypeId} {pos : String} {af : Array Edge} {g : Option (Nat × Bool)} {a : Act} {w : World} {Q : Exit → Act → World → Prop}
    (hw : Region.wanted { dst := d, op := x, type := t2, pos := pos, after := af, guard := g } (yielded ops a.tmps) = true)
    (k : ∀ K : Act → World → Prop, (∀ a w, wpList P ops Q rest a w → K a w) → Oper.wp P { dst := d, op := x, type := t2, pos := pos, after := af, guard := g } a w K Q) : wpList P ops Q ({ dst := d, op := x, type := t2, pos := pos, after := af, guard := g } :: rest) a w :=
  wpList_step fun K hK => by rw [if_pos hw]; exact k K hK
theorem stop_load45 {P : Program} {ops : Array Oper} {rest : List Oper} {d : Option Tmp} {x : Operand} {t2 : TypeId} {pos : String} {af : Array Edge} {g : Option (Nat × Bool)} {a : Act} {w : World} {Q : Exit → Act → World → Prop}
    (k : Stop (wpList P ops Q ({ dst := d, op := .load 45 x, type := t2, pos := pos, after := af, guard := g } :: rest) a w)) : wpList P ops Q ({ dst := d, op := .load 45 x, type := t2, pos := pos, after := af, guard := g } :: rest) a w := k.go
theorem stop_store45 {P : Program} {ops : Array Oper} {rest : List Oper} {d : Option Tmp} {x y : Operand} {t2 : TypeId} {pos : String} {af : Array Edge} {g : Option (Nat × Bool)} {a : Act} {w : World} {Q : Exit → Act → World → Prop}
    (k : Stop (wpList P ops Q ({ dst := d, op := .store 45 x y, type := t2, pos := pos, after := af, guard := g } :: rest) a w)) : wpList P ops Q ({ dst := d, op := .store 45 x y, type := t2, pos := pos, after := af, guard := g } :: rest) a w := k.go

theorem Only.ex {w1 w2 : World} {o : Obj} (ho : Only w1.heap.size (w1.alloc o) w2) : Ex w1 w2 := ho.below _ (Nat.le_refl _) _ ((Below.refl _ _).alloc (Nat.le_refl _) _)
/-- block g holds a list -/
def LB (w : World) (g : Nat) (n : Int) (p : Pt) : Prop := Bk w g 45 #[.int .u64 n, p.V]
theorem LB.ext {w w' : World} {g : Nat} {n : Int} {p : Pt} (h : LB w g n p) (k : Ex w w') : LB w' g n p := h.under k h.lt
theorem Only.lb {g h : Nat} {w w' : World} {n : Int} {p : Pt} (k : Only g w w') (hb : LB w h n p) (hne : h ≠ g) : LB w' h n p := k.bk hb hne
theorem Pt.In.st {p : Pt} {w w' : World} {g : Nat} {n : Int} {q : Pt} (hp : p.In w w.heap.size) (k : Only g w w') (hB : LB w g n q) : p.In w' w'.heap.size := by
  refine ⟨hp.cap, hp.nil, fun h0 => ?_⟩
  obtain ⟨a, o, e, ha, hc⟩ := hp.read h0
  have hne : a ≠ g := by
    rintro rfl
    have h1 := hc 0 h0
    unfold LB at hB
    rw [hB.cell] at h1
    rcases o with _ | _ | o
    · simp at h1
    · simp [Pt.V] at h1
    · simp at h1
  refine ⟨a, o, e, by rw [k.size]; exact ha, fun i hi => ?_⟩
  rw [← hc i hi]
  simp only [World.cell?, k.other a hne]
theorem Try.size45 : (Try.prog.info? 45).map (·.size) = some 2 := by kernel_rfl
section
variable {o : Oper} {a : Act} {w : World} {K : Act → World → Prop} {Q : Exit → Act → World → Prop}
theorem wp_ld45 (x : Operand) (g : Nat) (n : Int) (p : Pt) (ho : o.op = .load 45 x) (ha : a.eval x = .pointer (some ⟨g, 0, none⟩)) (h : LB w g n p) (hk : K (a.put o.dst (LV n p)) w) : o.wp Try.prog a w K Q := by
  obtain ⟨dd, hd⟩ : ∃ d, Try.prog.underlying 45 = some d ∧ d.isRow = true := ⟨_, Try.underlying45, rfl⟩
  exact wp_load_mid 45 x ho g 0 ha [.int .u64 n, p.V] dd (Bk.range (ds := [.int .u64 n, p.V]) h) hd.1 hd.2 (by rw [Try.size45]; rfl) hk
theorem wp_st45 (x y : Operand) (g : Nat) (n m : Int) (p q : Pt) (ho : o.op = .store 45 x y) (ha : a.eval x = .pointer (some ⟨g, 0, none⟩)) (hy : a.eval y = LV n p)
    (hB : LB w g m q) (hk : ∀ w', LB w' g n p → Only g w w' → K (a.put o.dst undef) w') : o.wp Try.prog a w K Q := by
  refine wp_store_mid 45 x y ho g 0 #[.int .u64 n, p.V] ha hy (Bk.there hB 0 _ (by simp)) (by rw [Try.size45]; rfl) (by unfold Pt.V; simp [Value.oneCell']) (hk _ ?_ ?_)
  · exact rowAll (ds := #[.int .u64 n, p.V]) hB (by simp)
  · exact Only.setCells g _ 0 w
end
theorem res_cell_tmp {fn : Func} {a u : Tmp} {t : TypeId} (h : fn.results = #[.cell a t, .tmp u]) (tmps : Array Value) (P : Program) (w : World) (b o : Nat) (ha : tmps.getD a undef = .pointer (some ⟨b, o, none⟩))
    (cs : List Value) (d : TypeDesc) (hc : w.rangeAt b o cs) (hu : P.underlying t = some d) (hd : d.isRow = true) (hi : (P.info? t).map (·.size) = some cs.length) :
    (results fn tmps).run P w = .ok (.tuple #[.agg cs.toArray, tmps.getD u undef]) w := by
  have ha' : tmps[a]?.getD undef = .pointer (some ⟨b, o, none⟩) := by simpa using ha
  simp [results, h, ha', asAddr, run_loadVar_mid w b o t cs d hc hu hd hi, Sem.run_bind]
theorem res_lv {fn : Func} {a u : Tmp} (h : fn.results = #[.cell a 45, .tmp u]) (tmps : Array Value) (w : World) (g : Nat) (ha : tmps.getD a undef = .pointer (some ⟨g, 0, none⟩)) (n : Int) (p : Pt) (hB : LB w g n p) :
    (results fn tmps).run Try.prog w = .ok (.tuple #[LV n p, tmps.getD u undef]) w := by
  obtain ⟨dd, hd⟩ : ∃ d, Try.prog.underlying 45 = some d ∧ d.isRow = true := ⟨_, Try.underlying45, rfl⟩
  exact res_cell_tmp h tmps _ w g 0 ha [.int .u64 n, p.V] dd (Bk.range (ds := [.int .u64 n, p.V]) hB) hd.1 hd.2 (by rw [Try.size45]; rfl)
def nilP : Pt := ⟨none, 0, []⟩
/-- what is said of a value -/
inductive Ar where
  | any
  | is (x : Value)
  | pt (l : List Int)
  | lv (v : Int) (l : List Int)
  | tup (v : Int) (l : List Int) (b : Bool)
  | rows (ls : List (List Int))
  | blk (base : Nat) (t : TypeId) (cs : Array Value)
def Ar.holds : Ar → Value → World → Prop
  | .any, _, _ => True
  | .is x, v, _ => v = x
  | .pt l, v, w => ∃ p : Pt, v = p.V ∧ p.l = l ∧ p.In w w.heap.size
  | .lv n l, v, w => ∃ p : Pt, v = LV n p ∧ p.l = l ∧ p.In w w.heap.size
  | .tup n l b, v, w => ∃ p : Pt, v = .tuple #[LV n p, .bool b] ∧ p.l = l ∧ p.In w w.heap.size
  | .rows ls, v, w => ∃ (g : Nat) (ps : List Pt), v = .slice (some ⟨g, 0, none⟩) ls.length ls.length ∧ ps.map (·.l) = ls ∧ (∀ p ∈ ps, p.In w w.heap.size) ∧ Bk w g 43 (ps.map (·.V)).toArray
  | .blk base t cs, v, w => ∃ g, v = .pointer (some ⟨g, 0, none⟩) ∧ base ≤ g ∧ Bk w g t cs
theorem Ar.stable {s : Ar} {v : Value} {w w' : World} (h : s.holds v w) (k : Ex w w') : s.holds v w' := by
  cases s with
  | any => exact h
  | is x => exact h
  | pt l => obtain ⟨p, h1, h2, h3⟩ := h; exact ⟨p, h1, h2, h3.ext k⟩
  | lv n l => obtain ⟨p, h1, h2, h3⟩ := h; exact ⟨p, h1, h2, h3.ext k⟩
  | tup n l b => obtain ⟨p, h1, h2, h3⟩ := h; exact ⟨p, h1, h2, h3.ext k⟩
  | rows ls => obtain ⟨g, ps, h1, h2, h3, h4⟩ := h; exact ⟨g, ps, h1, h2, fun p hp => (h3 p hp).ext k, h4.under k h4.lt⟩
  | blk base t cs => obtain ⟨g, h1, h2, h3⟩ := h; exact ⟨g, h1, h2, h3.under k h3.lt⟩
def arPhi (T : List Ar) (i : Nat) (v : Value) (w : World) : Prop := (T.getD i .any).holds v w
theorem arPhi_stable (T : List Ar) (i : Nat) (v : Value) (w w' : World) (h : arPhi T i v w) (k : Ex w w') : arPhi T i v w' := Ar.stable h k
def PtPost (L : List Int) (w : World) (e : Ending) (w' : World) : Prop := ∃ q : Pt, e = .returned q.V ∧ q.l = L ∧ q.In w' w'.heap.size ∧ Ex w w'
def LvPost (v : Int) (L : List Int) (b : Bool) (w : World) (e : Ending) (w' : World) : Prop := ∃ q : Pt, e = .returned (.tuple #[LV v q, .bool b]) ∧ q.l = L ∧ q.In w' w'.heap.size ∧ Ex w w'
theorem concatP (ps : List Pt) (g c : Nat) (w : World) (hB : Bk w g 43 (ps.map (·.V)).toArray) (hp : ∀ p ∈ ps, p.In w w.heap.size) (hN : (flatL ps ps.length).length ≤ 1000000) (hk : ps.length ≤ 1000) :
    Calls Try.prog 63 #[.slice (some ⟨g, 0, none⟩) ps.length c] w (PtPost (flatL ps ps.length) w) :=
  (concat_any ps g c w hB.lt (fun i p h => ⟨by rw [hB.cell]; simp [h], hp p (List.mem_of_getElem? h)⟩) hN hk).mono fun e w' ⟨v, hv, ho, hb⟩ => by
    subst hv
    obtain ⟨q, rfl, hq, hin, _⟩ := own_pt ho
    exact ⟨q, rfl, hq, hin, hb⟩
/-- what next tells -/
def nextV (v : Int) (L : List Int) : Int := if rightB (v + 1) L = true then v + 1 else 0
def nextL (v : Int) (L : List Int) : List Int := if rightB (v + 1) L = true then L else []
theorem nil_in (w : World) : (Pt.mk none 0 []).In w w.heap.size := ⟨Nat.le_refl _, fun _ => rfl, fun h => by simp at h⟩
set_option maxHeartbeats 4000000 in
set_option maxRecDepth 100000 in
theorem next_any (v : Int) (hv0 : 0 ≤ v) (hv1 : v ≤ 1099511627776) (x : Value) (ps : List Pt) (g c : Nat) (w : World) (hB : Bk w g 43 (ps.map (·.V)).toArray) (hp : ∀ p ∈ ps, p.In w w.heap.size) (hN : (flatL ps ps.length).length ≤ 1000000) (hk : ps.length ≤ 1000) :
    Calls Try.prog 52 #[.agg #[.int .u64 v, x], .slice (some ⟨g, 0, none⟩) ps.length c] w (LvPost (nextV v (flatL ps ps.length)) (nextL v (flatL ps ps.length)) (rightB (v + 1) (flatL ps ps.length)) w) := by
  have CC := Lib.hid (fun W (h : Ex w W) => concatP ps g c W (hB.under h hB.lt) (fun p hp' => (hp p hp').ext h) hN hk)
  obtain ⟨L, hL⟩ : ∃ L, L = flatL ps ps.length := ⟨_, rfl⟩
  rw [← hL] at CC ⊢
  obtain ⟨bq, hbq⟩ : ∃ b, b = rightB (v + 1) L := ⟨_, rfl⟩
  have F1 : Hid (bq = true → nextV v L = v + 1 ∧ nextL v L = L) := Lib.hid fun h => by
    unfold nextV nextL; rw [← hbq, h]; exact ⟨rfl, rfl⟩
  have F0 : Hid (bq = false → nextV v L = 0 ∧ nextL v L = []) := Lib.hid fun h => by
    unfold nextV nextL; rw [← hbq, h]; exact ⟨rfl, rfl⟩
  have R := Lib.hid (fun (q : Pt) (W : World) (hq : q.l = L) (h : q.In W W.heap.size) => (show Calls Try.prog 49 #[LV (v + 1) q] W fun e w' => e = .returned (.bool bq) ∧ Below W.heap.size W w' by
    rw [hbq, ← hq]; exact right_any (v + 1) q W h))
  rw [← hbq]
  generalize nextV v L = Vn at *
  generalize nextL v L = Ln at *
  clear hbq
  have hz := hB.lt
  generalize ps.length = k at CC hk ⊢
  clear hB hp hN hL
  have bw : Ex w ((w.alloc (.cells #[.int .u64 v, x] 45)).alloc (.cells #[.int .u64 0, .slice none 0 0] 45)) := ((Below.refl _ _).alloc (Nat.le_refl _) _).alloc (by simp) _
  have BW := Lib.hid bw
  have b0 := Lib.hid (show Bk ((w.alloc (.cells #[.int .u64 v, x] 45)).alloc (.cells #[.int .u64 0, .slice none 0 0] 45)) w.heap.size 45 #[.int .u64 v, x] from (Bk.new rfl _ _).more _)
  have b1 := Lib.hid (show Bk ((w.alloc (.cells #[.int .u64 v, x] 45)).alloc (.cells #[.int .u64 0, .slice none 0 0] 45)) (w.heap.size + 1) 45 #[.int .u64 0, .slice none 0 0] from Bk.new (by simp) _ _)
  clear bw
  go_enter Try.func52, Try.ntmps52
  go_wp2_with fail
  have bw := BW.out
  generalize hw1 : (w.alloc (.cells #[.int .u64 v, x] 45)).alloc (.cells #[.int .u64 0, .slice none 0 0] 45) = wr at *
  obtain ⟨B, hB⟩ : ∃ B, B = w.heap.size := ⟨_, rfl⟩
  rw [← hB] at b0 b1 ⊢
  have HB := Lib.hid hB
  have HBw := Lib.hid b0.out.lt
  have HBw1 := Lib.hid (show B + 2 ≤ wr.heap.size from b1.out.lt)
  have CB := Lib.hid (show wr.cell? ⟨B, 0, none⟩ = some (.int .u64 v) from b0.out.cell 0)
  have hwrap : IntKind.u64.wrap (v + 1) = v + 1 := by unfold IntKind.wrap; simp [IntKind.signed, IntKind.bits]; omega
  have HWR := Lib.hid hwrap
  have CC := Lib.hid (fun W (h : Ex wr W) => CC.out W (Ex.trans bw h))
  clear hw1 hB BW hz
  obtain ⟨T, hT⟩ : ∃ T : List Ar, T = [.is (.pointer (some ⟨B, 0, none⟩)), .is (.int .u64 v), .is (.int .u64 (v + 1)), .is (.slice (some ⟨g, 0, none⟩) k c), .pt (L), .lv (v + 1) (L), .blk (B + 2) 45 #[.int .u64 0, .slice none 0 0]] := ⟨_, rfl⟩
  refine wp_region_flow 7 (arPhi T) (by kernel_rfl) rfl (by kernel_rfl) (by kernel_rfl) (by kernel_rfl) (arPhi_stable T) (fitB_spec (by kernel_rfl)) ?_ ?_
  · intro i o hi ho
    have hi' : i = 0 ∨ i = 1 ∨ i = 2 ∨ i = 3 ∨ i = 4 ∨ i = 5 ∨ i = 6 := by omega
    clear hi
    rcases hi' with rfl | rfl | rfl | rfl | rfl | rfl | rfl
    all_goals (simp only [List.getElem?_toArray, List.getElem?_cons_zero, List.getElem?_cons_succ, Option.some.injEq] at ho; subst ho; intro a w2 hx hsz hdep hout)
    · rw [if_pos (by rfl)]
      intro K hK
      have q2 := hout 2 (outB_spec (by kernel_rfl))
      clear hsz hdep hout
      go_simp
      exact hK _ _ (Ex.refl _) (by rw [hT]; rfl)
    · rw [if_pos (by rfl)]
      intro K hK
      obtain ⟨v7, h7, k7⟩ := hdep ⟨0, .data⟩ (by simp) rfl _ rfl
      have q7 := k7 _ rfl
      clear k7
      rw [hT] at h7
      obtain rfl : v7 = .pointer (some ⟨B, 0, none⟩) := h7
      have f1 : w2.cell? ⟨B, 0, none⟩ = some (.int .u64 v) := (Below.cell (p := ⟨B, 0, none⟩) (Ex.trans (show Ex wr wr.drew from (Below.refl _ _).drew) hx) HBw.out).trans CB.out
      clear hsz hdep hout
      go_simp
      exact hK _ _ (Ex.refl _) (by rw [hT]; rfl)
    · rw [if_pos (by rfl)]
      intro K hK
      obtain ⟨v8, h8, k8⟩ := hdep ⟨1, .data⟩ (by simp) rfl _ rfl
      have q8 := k8 _ rfl
      clear k8
      rw [hT] at h8
      obtain rfl : v8 = .int .u64 v := h8
      clear hsz hdep hout
      go_simp
      exact hK _ _ (Ex.refl _) (by rw [hT]; rfl)
    · rw [if_pos (by rfl)]
      intro K hK
      have q1 := hout 1 (outB_spec (by kernel_rfl))
      exact wp_mv _ rfl (hK _ _ (Ex.refl _) (by rw [hT]; exact q1))
    · rw [if_pos (by rfl)]
      intro K hK
      obtain ⟨v10, h10, k10⟩ := hdep ⟨3, .data⟩ (by simp) rfl _ rfl
      have q10 := k10 _ rfl
      clear k10
      rw [hT] at h10
      obtain rfl : v10 = .slice (some ⟨g, 0, none⟩) k c := h10
      clear hsz hdep hout
      go_simp
      refine (CC.out w2 (Ex.trans (show Ex wr wr.drew from (Below.refl _ _).drew) hx)).mono ?_
      rintro e w3 ⟨q, rfl, lq, iq, xq⟩
      exact hK _ _ xq (by rw [hT]; exact ⟨q, rfl, lq, iq⟩)
    · rw [if_pos (by rfl)]
      intro K hK
      obtain ⟨v9, h9, k9⟩ := hdep ⟨2, .data⟩ (by simp) rfl _ rfl
      have q9 := k9 _ rfl
      clear k9
      rw [hT] at h9
      obtain rfl : v9 = .int .u64 (v + 1) := h9
      obtain ⟨v11, h11, k11⟩ := hdep ⟨4, .data⟩ (by simp) rfl _ rfl
      have q11 := k11 _ rfl
      clear k11
      rw [hT] at h11
      obtain ⟨p11, rfl, l11, i11⟩ := h11
      have r9 := q9
      have r11 := q11
      rw [Array.getD_eq_getD_getElem?] at r9 r11
      unfold Pt.V at r11
      clear hsz hdep hout q9 q11
      go_simp
      exact hK _ _ (Ex.refl _) (by rw [hT]; exact ⟨p11, by unfold LV Pt.V; rw [l11], l11, i11⟩)
    · rw [if_pos (by rfl)]
      intro K hK
      clear hsz hdep hout
      go_simp
      exact hK _ _ ((Below.refl _ _).alloc (Nat.le_refl _) _) (by rw [hT]; exact ⟨_, rfl, Nat.le_trans HBw1.out (Ex.trans (show Ex wr wr.drew from (Below.refl _ _).drew) hx).size, Bk.new rfl _ _⟩)
  · intro a w2 hx hdef hsz hdone hout
    obtain ⟨v6, h6, k6⟩ := hdone 6 _ (by omega) rfl
    have q6 := k6 _ rfl
    clear k6
    rw [hT] at h6
    obtain ⟨g6, rfl, e6, b6⟩ := h6
    obtain ⟨v12, h12, k12⟩ := hdone 5 _ (by omega) rfl
    have q12 := k12 _ rfl
    clear k12
    rw [hT] at h12
    obtain ⟨p12, rfl, l12, i12⟩ := h12
    clear hdone hT
    have hA := arr_range a.tmps 18 hsz
    change a.tmps = #[a.tmps[0]?.getD undef, a.tmps[1]?.getD undef, a.tmps[2]?.getD undef, a.tmps[3]?.getD undef, a.tmps[4]?.getD undef, a.tmps[5]?.getD undef, a.tmps[6]?.getD undef, a.tmps[7]?.getD undef, a.tmps[8]?.getD undef, a.tmps[9]?.getD undef, a.tmps[10]?.getD undef, a.tmps[11]?.getD undef, a.tmps[12]?.getD undef, a.tmps[13]?.getD undef, a.tmps[14]?.getD undef, a.tmps[15]?.getD undef, a.tmps[16]?.getD undef, a.tmps[17]?.getD undef] at hA
    have e0 := hout 0 (fun i o _ h => outB_spec (by kernel_rfl) i o h)
    have e1 := hout 1 (fun i o _ h => outB_spec (by kernel_rfl) i o h)
    have e2 := hout 2 (fun i o _ h => outB_spec (by kernel_rfl) i o h)
    have e3 := hout 3 (fun i o _ h => outB_spec (by kernel_rfl) i o h)
    have e4 := hout 4 (fun i o _ h => outB_spec (by kernel_rfl) i o h)
    have e5 := hout 5 (fun i o _ h => outB_spec (by kernel_rfl) i o h)
    have e13 := hout 13 (fun i o _ h => outB_spec (by kernel_rfl) i o h)
    have e14 := hout 14 (fun i o _ h => outB_spec (by kernel_rfl) i o h)
    have e15 := hout 15 (fun i o _ h => outB_spec (by kernel_rfl) i o h)
    have e16 := hout 16 (fun i o _ h => outB_spec (by kernel_rfl) i o h)
    have e17 := hout 17 (fun i o _ h => outB_spec (by kernel_rfl) i o h)
    simp only [Array.getD_eq_getD_getElem?, List.getElem?_toArray, List.getElem?_cons_zero, List.getElem?_cons_succ, Option.getD_some] at e0 e1 e2 e3 e4 e5 e13 e14 e15 e16 e17
    rw [e0, e1, e2, e3, e4, e5, e13, e14, e15, e16, e17] at hA
    clear e0 e1 e2 e3 e4 e5 e13 e14 e15 e16 e17 hout
    have hds2 : a.defers = [] := hdef
    have ea : a = ⟨a.tmps, a.defers⟩ := rfl
    rw [Array.getD_eq_getD_getElem?] at q6
    rw [Array.getD_eq_getD_getElem?] at q12
    rw [hA, hds2, q6, q12] at ea
    clear hA hds2 q6 q12 hdef
    generalize a.tmps[7]?.getD undef = y7 at ea
    generalize a.tmps[8]?.getD undef = y8 at ea
    generalize a.tmps[9]?.getD undef = y9 at ea
    generalize a.tmps[10]?.getD undef = y10 at ea
    generalize a.tmps[11]?.getD undef = y11 at ea
    clear hsz
    subst ea
    have bx : Ex wr w2 := Ex.trans (show Ex wr wr.drew from (Below.refl _ _).drew) hx
    unfold wpOp
    simp only [List.getElem?_toArray, List.getElem?_cons_zero, List.getElem?_cons_succ]
    rw [if_pos (by rfl)]
    left
    have Z1 : LB w2 (B + 1) 0 nilP := LB.ext b1.out bx
    have bw2 : Ex w w2 := Ex.trans bw bx
    refine wp_st45 _ _ g6 (v + 1) 0 p12 nilP rfl rfl rfl b6 (fun w3 hd ho => ?_)
    have i3 := Lib.hid (i12.st (n := 0) (q := nilP) ho b6)
    have Z3 := Lib.hid (ho.lb Z1 (by omega))
    have A3 := Lib.hid hd
    have bw3 := ho.below w.heap.size (by rw [← HB.out]; omega) w bw2
    clear b0 b1 HBw CB hwrap HWR CC bx i12 b6 hd ho Z1 bw2 hx
    go_wp2_with (first | (with_reducible refine stop_load45 ?_) | (with_reducible refine stop_store45 ?_))
    (with_reducible refine ⟨?_⟩); (with_reducible refine at_any ?_ ?_); (focus go_simp); refine fun K hK => wp_ld45 _ g6 (v + 1) p12 rfl rfl A3.out (hK _ _ ?_)
    clear hK
    go_wp2_with (first | (with_reducible refine stop_load45 ?_) | (with_reducible refine stop_store45 ?_))
    refine (R.out p12 _ l12 i3.out).mono ?_
    rintro e w4 ⟨rfl, x4⟩
    have i4 := Lib.hid (Pt.In.ext i3.out x4)
    have Z4 := Lib.hid (LB.ext Z3.out x4)
    have A4 := Lib.hid (LB.ext A3.out x4)
    have bw4 : Ex w w4 := Ex.trans bw3 x4
    clear i3 Z3 A3 bw3 x4 R
    cases bq
    · obtain ⟨e1, e2⟩ := F0.out rfl
      subst e1 e2
      go_wp2_with (first | (with_reducible refine stop_load45 ?_) | (with_reducible refine stop_store45 ?_))
      (with_reducible refine ⟨?_⟩); (with_reducible refine at_any ?_ ?_); (focus go_simp); refine fun K hK => wp_st45 _ _ (B + 1) 0 0 nilP nilP rfl rfl rfl Z4.out (fun w5 hd ho => hK _ _ ?_)
      have bw5 := ho.below w.heap.size (by rw [← HB.out]; omega) w bw4
      clear hK ho
      go_wp2_with (first | (with_reducible refine stop_load45 ?_) | (with_reducible refine stop_store45 ?_))
      exact bodyPost_ret (res_lv rfl _ _ (B + 1) rfl 0 nilP hd) rfl ⟨nilP, rfl, rfl, nil_in _, bw5⟩
    · obtain ⟨e1, e2⟩ := F1.out rfl
      subst e1 e2
      go_wp2_with (first | (with_reducible refine stop_load45 ?_) | (with_reducible refine stop_store45 ?_))
      (with_reducible refine ⟨?_⟩); (with_reducible refine at_any ?_ ?_); (focus go_simp); refine fun K hK => wp_ld45 _ g6 (v + 1) p12 rfl rfl A4.out (hK _ _ ?_)
      clear hK
      go_wp2_with (first | (with_reducible refine stop_load45 ?_) | (with_reducible refine stop_store45 ?_))
      (with_reducible refine ⟨?_⟩); (with_reducible refine at_any ?_ ?_); (focus go_simp); refine fun K hK => wp_st45 _ _ (B + 1) (v + 1) 0 p12 nilP rfl rfl rfl Z4.out (fun w5 hd ho => hK _ _ ?_)
      have bw5 := ho.below w.heap.size (by rw [← HB.out]; omega) w bw4
      have i5 := i4.out.st ho Z4.out
      clear hK ho
      go_wp2_with (first | (with_reducible refine stop_load45 ?_) | (with_reducible refine stop_store45 ?_))
      exact bodyPost_ret (res_lv rfl _ _ (B + 1) rfl (v + 1) p12 hd) rfl ⟨p12, rfl, l12, i5, bw5⟩
end Go.Proofs.Ytgoiidpcdifojaa
