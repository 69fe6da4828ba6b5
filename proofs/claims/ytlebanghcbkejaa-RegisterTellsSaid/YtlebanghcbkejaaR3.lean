/- walks: register.step -/
import Derived.Test.YtlebanghcbkejaaR2
namespace Go.Proofs.Ytlebanghcbkejaa
open Go.RowKit
/-- a function's results: a struct in a variable's block, and a plain one -/
theorem results_cell_tmp {fn : Func} {a u : Tmp} {t : TypeId} (h : fn.results = #[.cell a t, .tmp u]) (tmps : Array Value) (P : Program) (w : World) (b o : Nat) (ha : tmps.getD a undef = .pointer (some ⟨b, o, none⟩))
    (cs : List Value) (d : TypeDesc) (hc : w.rangeAt b o cs) (hu : P.underlying t = some d) (hd : d.isRow = true) (hi : (P.info? t).map (·.size) = some cs.length) :
    (results fn tmps).run P w = .ok (.tuple #[.agg cs.toArray, tmps.getD u undef]) w := by
  have ha' : tmps[a]?.getD undef = .pointer (some ⟨b, o, none⟩) := by simpa using ha
  simp [results, h, ha', asAddr, run_loadVar_mid w b o t cs d hc hu hd hi, Sem.run_bind]
def zeroRg : Rg := ⟨0, 0, 0, zeroL, 0⟩
theorem wpList_at_store {P : Program} {ops : Array Oper} {rest : List Oper} {d : Option Tmp} {ty t2 : TypeId} {x y : Operand} {pos : String} {af : Array Edge} {g : Option (Nat × Bool)} {a : Act} {w : World} {Q : Exit → Act → World → Prop}
    (hw : Region.wanted { dst := d, op := .store ty x y, type := t2, pos := pos, after := af, guard := g } (yielded ops a.tmps) = true)
    (k : ∀ K : Act → World → Prop, (∀ a w, wpList P ops Q rest a w → K a w) → Oper.wp P { dst := d, op := .store ty x y, type := t2, pos := pos, after := af, guard := g } a w K Q) : wpList P ops Q ({ dst := d, op := .store ty x y, type := t2, pos := pos, after := af, guard := g } :: rest) a w :=
  wpList_step fun K hK => by rw [if_pos hw]; exact k K hK
theorem there_new (X : World) (Z : Array Value) (t : TypeId) (fz : Nat × Nat) (h : fz = (0, 0)) : (X.alloc (.cells Z t fz)).there X.heap.size 0 Z.size := by
  subst h
  intro j hj
  refine ⟨?_, ?_⟩
  · simp [hj]
  · have h : (X.heap.push (.cells Z t (0, 0)))[X.heap.size]? = some (.cells Z t (0, 0)) := by simp
    unfold World.frozen?
    show (match (X.heap.push (.cells Z t (0, 0)))[X.heap.size]? with | some (.cells _ _ (lo, hi)) => decide (lo ≤ 0 + j) && decide (0 + j < hi) | _ => false) = false
    rw [h]
    simp
theorem range_below {a b : World} {B k o : Nat} {cs : List Value} (h : a.rangeAt k o cs) (hb : Below B a b) (hk : k < B) : b.rangeAt k o cs :=
  fun j v hv => (hb.cell (p := ⟨k, o + j, none⟩) hk).trans (h j v hv)
theorem there_below {a b : World} {B k o n : Nat} (h : a.there k o n) (hb : Below B a b) (hk : k < B) : b.there k o n :=
  fun j hj => ⟨by rw [hb.cell (p := ⟨k, o + j, none⟩) hk]; exact (h j hj).1, by rw [hb.frozen (p := ⟨k, o + j, none⟩) hk]; exact (h j hj).2⟩
theorem Rg.ones (r : Rg) : r.C.toArray.all (·.oneCell') = true := all_oneCell_toArray (by
  intro v hv
  unfold Rg.C Lib.byteCells at hv
  simp at hv
  rcases hv with rfl | rfl | rfl | ⟨b, _, rfl⟩ | rfl <;> rfl)
theorem below_setCells {B b : Nat} {a : World} : ∀ (vs : List Value) (o : Nat) (w : World), B ≤ b → Below B a w → Below B a (w.setCells b o vs)
  | [], _, _, _, h => h
  | v :: r, o, w, hb, h => below_setCells r (o + 1) (w.setCell ⟨b, o, none⟩ v) hb (h.setCell (p := ⟨b, o, none⟩) hb v)
set_option maxHeartbeats 4000000 in
set_option maxRecDepth 100000 in
theorem step_one (r s : Rg) (ok : r.Ok) (ok' : s.Ok) (w : World) :
    Calls Try.prog 32 #[r.V, s.V] w fun e w' => e = .returned (.tuple #[(if r.right && s.right then s else zeroRg).V, .bool (r.right && s.right)]) ∧ Below w.heap.size w w' := by
  have R := Lib.hid (fun w => right_one r ok w)
  have S := Lib.hid (fun w => right_one s ok' w)
  have hl := r.len ok.l16
  have hl' := s.len ok'.l16
  obtain ⟨cs, hcs⟩ : ∃ cs, cs = r.C := ⟨_, rfl⟩
  obtain ⟨ds, hds⟩ : ∃ ds, ds = s.C := ⟨_, rfl⟩
  have hv : r.V = .agg cs.toArray := by rw [hcs]; rfl
  have hv' : s.V = .agg ds.toArray := by rw [hds]; rfl
  rw [← hcs] at hl
  rw [← hds] at hl'
  obtain ⟨q, hq⟩ : ∃ q, q = r.right := ⟨_, rfl⟩
  obtain ⟨q', hq'⟩ : ∃ q, q = s.right := ⟨_, rfl⟩
  rw [hv, ← hq] at R
  rw [hv', ← hq'] at S
  rw [hv, hv', ← hq, ← hq']
  have hsz : (Try.prog.info? 27).map (·.size) = some cs.length := by rw [Try.size27, hl]
  have hsz' : (Try.prog.info? 27).map (·.size) = some ds.length := by rw [Try.size27, hl']
  have HS := Lib.hid hsz
  have HS' := Lib.hid hsz'
  obtain ⟨d, hd⟩ : ∃ d, Try.prog.underlying 27 = some d ∧ d.isRow = true := ⟨_, Try.underlying27, rfl⟩
  have HD := Lib.hid hd
  have HV := Lib.hid hv'
  have HL := Lib.hid (show ds.toArray.size = 20 by simpa using hl')
  have HO := Lib.hid (show ds.toArray.all (·.oneCell') = true by rw [hds]; exact s.ones)
  clear hsz hsz' hd hv hv' hcs hds hq hq' hl hl'
  have hz : zeroRg.C.length = 20 := rfl
  have hr0 : ∀ Z, (((w.alloc (.cells cs.toArray 27)).alloc (.cells ds.toArray 27)).alloc (.cells Z 27)).rangeAt w.heap.size 0 cs := by
    intro Z j v hv
    have h1 : (w.alloc (.cells cs.toArray 27)).cell? ⟨w.heap.size, 0 + j, none⟩ = some v := by simpa using hv
    have hb : Below (w.heap.size + 1) (w.alloc (.cells cs.toArray 27)) (((w.alloc (.cells cs.toArray 27)).alloc (.cells ds.toArray 27)).alloc (.cells Z 27)) :=
      ((Below.refl _ _).alloc (by simp) _).alloc (by simp) _
    exact (hb.cell (p := ⟨w.heap.size, 0 + j, none⟩) (by simp)).trans h1
  have hr1 : ∀ Z, (((w.alloc (.cells cs.toArray 27)).alloc (.cells ds.toArray 27)).alloc (.cells Z 27)).rangeAt (w.heap.size + 1) 0 ds := by
    intro Z j v hv
    have h1 : ((w.alloc (.cells cs.toArray 27)).alloc (.cells ds.toArray 27)).cell? ⟨w.heap.size + 1, 0 + j, none⟩ = some v := by simpa using hv
    have hb : Below (w.heap.size + 2) ((w.alloc (.cells cs.toArray 27)).alloc (.cells ds.toArray 27)) (((w.alloc (.cells cs.toArray 27)).alloc (.cells ds.toArray 27)).alloc (.cells Z 27)) :=
      (Below.refl _ _).alloc (by simp) _
    exact (hb.cell (p := ⟨w.heap.size + 1, 0 + j, none⟩) (by simp)).trans h1
  have HR0 := Lib.hid hr0
  have HR1 := Lib.hid hr1
  clear hr0 hr1 hz
  go_enter Try.func32, Try.ntmps32
  go_wp2_with ((with_reducible refine wpList_at_load ?_ ?_); (focus go_simp); (refine fun K hK => wp_load_mid 27 _ rfl _ 0 rfl _ _ (HR0.out _) HD.out.1 HD.out.2 HS.out (hK _ _ ?_)))
  refine (R.out _).mono ?_
  rintro e w1 ⟨rfl, b1⟩
  have m1 := Lib.hid (range_below (HR1.out _) b1 (by simp))
  have t1 := there_below (there_new _ _ _ _ rfl) b1 (by simp)
  have bw : Below w.heap.size w w1 := (((Below.refl _ _).alloc (Nat.le_refl _) _).alloc (by simp) _).alloc (by simp; omega) _ |>.trans (b1.mono (by simp; omega))
  have sz1 : w.heap.size + 3 ≤ w1.heap.size := by have := b1.size; simp at this; omega
  have t2 : w1.there (w.heap.size + 1 + 1) 0 20 := by simpa using t1
  have T := Lib.hid t2
  clear t1 t2 b1
  cases q
  · go_wp2_with ((with_reducible refine wpList_at_store ?_ ?_); (focus go_simp); (refine fun K hK => wp_store_mid 27 _ _ rfl (w.heap.size + 1 + 1) 0 _ rfl rfl T.out Try.size27 (by simp [Value.oneCell']) (hK _ _ ?_)))
    refine bodyPost_ret (results_cell_tmp rfl _ _ _ (w.heap.size + 1 + 1) 0 rfl zeroRg.C d (World.rangeAt_setCells_same _ _ _ _ T.out) HD.out.1 HD.out.2 Try.size27) rfl ⟨rfl, below_setCells _ _ _ (by omega) bw⟩
  · go_wp2_with ((with_reducible refine wpList_at_load ?_ ?_); (focus go_simp); (refine fun K hK => wp_load_mid 27 _ rfl _ 0 rfl _ _ m1.out HD.out.1 HD.out.2 HS'.out (hK _ _ ?_)))
    refine (S.out _).mono ?_
    rintro e w2 ⟨rfl, b2⟩
    have T2 := Lib.hid (there_below T.out b2 (by omega))
    have bw2 : Below w.heap.size w w2 := bw.trans (b2.mono (by omega))
    have m2 := Lib.hid (range_below m1.out b2 (by omega))
    cases q'
    · go_wp2_with ((with_reducible refine wpList_at_store ?_ ?_); (focus go_simp); (refine fun K hK => wp_store_mid 27 _ _ rfl (w.heap.size + 1 + 1) 0 _ rfl rfl T2.out Try.size27 (by simp [Value.oneCell']) (hK _ _ ?_)))
      refine bodyPost_ret (results_cell_tmp rfl _ _ _ (w.heap.size + 1 + 1) 0 rfl zeroRg.C d (World.rangeAt_setCells_same _ _ _ _ T2.out) HD.out.1 HD.out.2 Try.size27) rfl ⟨rfl, below_setCells _ _ _ (by omega) bw2⟩
    · have T3 : w2.there (w.heap.size + 1 + 1) 0 ds.toArray.size := by rw [HL.out]; exact T2.out
      have T3 := Lib.hid T3
      have hi3 := Lib.hid (show (Try.prog.info? 27).map (·.size) = some ds.toArray.size by rw [Try.size27, HL.out])
      go_wp2_with (first
        | ((with_reducible refine wpList_at_load ?_ ?_); (focus go_simp); (refine fun K hK => wp_load_mid 27 _ rfl _ 0 rfl _ _ m2.out HD.out.1 HD.out.2 HS'.out (hK _ _ ?_)))
        | ((with_reducible refine wpList_at_store ?_ ?_); (focus go_simp); (refine fun K hK => wp_store_mid 27 _ _ rfl (w.heap.size + 1 + 1) 0 ds.toArray rfl rfl T3.out hi3.out HO.out (hK _ _ ?_))))
      have hv2 := HV.out
      refine bodyPost_ret (results_cell_tmp rfl _ _ _ (w.heap.size + 1 + 1) 0 rfl ds d (World.rangeAt_setCells_same _ _ _ _ (by simpa using T3.out)) HD.out.1 HD.out.2 HS'.out) rfl ⟨?_, below_setCells _ _ _ (by omega) bw2⟩
      simp [hv2]
end Go.Proofs.Ytlebanghcbkejaa
