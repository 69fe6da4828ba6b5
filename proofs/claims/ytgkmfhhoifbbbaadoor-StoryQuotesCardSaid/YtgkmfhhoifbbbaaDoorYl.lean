/- Steps as they are read, and the program's same of two that say the same. -/
import Derived.Test.YtgkmfhhoifbbbaaDoorYm
namespace Go.Proofs.YtgkmfhhoifbbbaaDoor
open Go Go.RowKit
def zz16 : List UInt8 := [0, 0, 0, 0, 0, 0, 0, 0, 0, 0, 0, 0, 0, 0, 0, 0]
/-- what a step says -/
structure SV where
  k : Int
  m : Int
  c : Int
  n : Int
  s : Int
  t : Int
  o : Int
  op : Int
  lim : Int
  id : List UInt8
  pin : List UInt8
  own : List UInt8
def SV.R (x : SV) (p : Pt) : List Value := [.int .i64 x.op] ++ Lib.byteCells x.id ++ Lib.byteCells zz16 ++ [p.V, .int .i64 x.lim] ++ Lib.byteCells zz16 ++ Lib.byteCells zz16 ++ [.int .i64 0, .int .u64 0]
def SV.I (x : SV) (p q : Pt) : List Value := [.int .i64 x.k, .int .i64 x.m, .int .i64 x.c, .int .i64 x.n, .int .i64 x.s, .int .i64 x.t, .int .i64 x.o] ++ x.R p ++ [q.V]
def SV.C (x : SV) (p q : Pt) : List Value := x.I p q ++ [.string ⟨x.pin.toArray⟩, .string ⟨x.own.toArray⟩]
def svZ (k : Int) : SV := ⟨k, 0, 0, 0, 0, 0, 0, 0, 0, [0, 0, 0, 0], [], []⟩
theorem stepZ_sv (k : Int) : stepZ k = (svZ k).C nilB nilB := rfl
theorem pt_bytes {p : Pt} {w : World} {B : Nat} (h : p.In w B) : Lib.BytesIn w p.ad p.l.length (p.l.map fun c => (c.toNat : Int)) := by
  intro h0
  obtain ⟨a, o, e, _, hc⟩ := h.read h0
  refine ⟨a, o, e, fun i hi => ?_⟩
  rw [hc i hi]
  simp [List.getD, hi]
set_option maxHeartbeats 8000000 in
set_option maxRecDepth 100000 in
theorem bsame_eq (p q : Pt) (hpq : p.l = q.l) (w : World) (hp : p.In w w.heap.size) (hq : q.In w w.heap.size) : Calls Tryd.prog 62 #[p.V, q.V] w fun e w' => e = .returned (.bool true) ∧ w' = w := by
  obtain ⟨pa, pc, pl⟩ := p
  obtain ⟨qa, qc, ql⟩ := q
  simp only at hpq
  subst hpq
  have h := Tryd.bytes_Equal_all pa qa pl.length pc pl.length qc _ _ w (by simp) (by simp) (pt_bytes hp) (pt_bytes hq)
  rw [beq_self_eq_true] at h
  unfold Pt.V
  go_enter Tryd.func62, Tryd.ntmps62
  go_wp2_with (go_at_call 78; refine h.mono ?_; rintro e w ⟨rfl, rfl⟩)
  go_ret
  exact ⟨rfl, rfl⟩
set_option maxHeartbeats 8000000 in
set_option maxRecDepth 100000 in
theorem sreq_eq (x : SV) (hi : x.id.length = 4) (p1 p2 : Pt) (hpq : p1.l = p2.l) (w : World) (hp1 : p1.In w w.heap.size) (hp2 : p2.In w w.heap.size) : Calls Tryd.prog 63 #[.agg (x.R p1).toArray, .agg (x.R p2).toArray] w fun e w' => e = .returned (.bool true) ∧ Below w.heap.size w w' := by
  obtain ⟨k, m, c, n, s, t, o, op, lim, id, pin, own⟩ := x
  simp only at hi
  obtain ⟨i1, i2, i3, i4, rfl⟩ := len4 hi
  obtain ⟨x, hx⟩ : ∃ x : SV, x = ⟨k, m, c, n, s, t, o, op, lim, [i1, i2, i3, i4], pin, own⟩ := ⟨_, rfl⟩
  rw [← hx]
  have HX := Lib.hid hx
  clear hx
  go_enter Tryd.func63, Tryd.ntmps63
  go_wp2_with ((with_reducible refine so4 [3] ?_ ?_); (focus rfl))
  (with_reducible refine ⟨?_⟩)
  have Q1 : Bk ((w.alloc (.cells (x.R p1).toArray 33)).alloc (.cells (x.R p2).toArray 33)) w.heap.size 33 (x.R p1).toArray := (Bk.new rfl _ _).more _
  have Q2 : Bk ((w.alloc (.cells (x.R p1).toArray 33)).alloc (.cells (x.R p2).toArray 33)) (w.heap.size + 1) 33 (x.R p2).toArray := Bk.new (by simp) _ _
  have BB : Below w.heap.size w ((w.alloc (.cells (x.R p1).toArray 33)).alloc (.cells (x.R p2).toArray 33)) := ((Below.refl _ _).alloc (Nat.le_refl _) _).alloc (by simp) _
  change wpList _ _ _ _ _ ((w.alloc (.cells (x.R p1).toArray 33)).alloc (.cells (x.R p2).toArray 33))
  generalize ((w.alloc (.cells (x.R p1).toArray 33)).alloc (.cells (x.R p2).toArray 33)) = z0 at Q1 Q2 BB ⊢
  have P1 := hp1.ext BB
  have P2 := hp2.ext BB
  obtain rfl := HX.out
  clear HX
  have c1_0 : z0.cell? ⟨w.heap.size, 0, none⟩ = some (.int .i64 op) := by rw [Q1.cell]; rfl
  have c1_21 : z0.cell? ⟨w.heap.size, 21, none⟩ = some (p1.V) := by rw [Q1.cell]; rfl
  have c1_22 : z0.cell? ⟨w.heap.size, 22, none⟩ = some (.int .i64 lim) := by rw [Q1.cell]; rfl
  have c1_55 : z0.cell? ⟨w.heap.size, 55, none⟩ = some (.int .i64 0) := by rw [Q1.cell]; rfl
  have c1_56 : z0.cell? ⟨w.heap.size, 56, none⟩ = some (.int .u64 0) := by rw [Q1.cell]; rfl
  have c2_0 : z0.cell? ⟨(w.heap.size + 1), 0, none⟩ = some (.int .i64 op) := by rw [Q2.cell]; rfl
  have c2_21 : z0.cell? ⟨(w.heap.size + 1), 21, none⟩ = some (p2.V) := by rw [Q2.cell]; rfl
  have c2_22 : z0.cell? ⟨(w.heap.size + 1), 22, none⟩ = some (.int .i64 lim) := by rw [Q2.cell]; rfl
  have c2_55 : z0.cell? ⟨(w.heap.size + 1), 55, none⟩ = some (.int .i64 0) := by rw [Q2.cell]; rfl
  have c2_56 : z0.cell? ⟨(w.heap.size + 1), 56, none⟩ = some (.int .u64 0) := by rw [Q2.cell]; rfl
  go_wp2_with ((with_reducible refine so4 [27, 29, 2000 + 27, 2000 + 29] ?_ ?_); (focus rfl))
  (with_reducible refine ⟨?_⟩); (with_reducible refine at_any ?_ ?_); (focus go_simp); refine fun K0 hK => wp_ldp (C := SV.R ⟨k, m, c, n, s, t, o, op, lim, [i1, i2, i3, i4], pin, own⟩ p1) (Lib.byteCells [i1, i2, i3, i4]) _ w.heap.size 1 _ rfl rfl Q1 rfl Tryd.underlying27 rfl (by kernel_rfl) (hK _ _ ?_)
  clear hK
  go_wp2_with ((with_reducible refine so4 [27, 29, 2000 + 27, 2000 + 29] ?_ ?_); (focus rfl))
  (with_reducible refine ⟨?_⟩); (with_reducible refine at_any ?_ ?_); (focus go_simp); refine fun K0 hK => wp_ldp (C := SV.R ⟨k, m, c, n, s, t, o, op, lim, [i1, i2, i3, i4], pin, own⟩ p2) (Lib.byteCells [i1, i2, i3, i4]) _ (w.heap.size + 1) 1 _ rfl rfl Q2 rfl Tryd.underlying27 rfl (by kernel_rfl) (hK _ _ ?_)
  clear hK
  go_wp2_with ((with_reducible refine so4 [27, 29, 2000 + 27, 2000 + 29] ?_ ?_); (focus rfl))
  (with_reducible refine ⟨?_⟩); (with_reducible refine at_any ?_ ?_); (focus go_simp); refine fun K0 hK => wp_eql_id _ _ _ rfl [i1, i2, i3, i4] [i1, i2, i3, i4] rfl rfl rfl rfl (hK _ _ ?_)
  clear hK
  go_wp2_with ((with_reducible refine so4 [27, 29, 2000 + 27, 2000 + 29] ?_ ?_); (focus rfl))
  (with_reducible refine ⟨?_⟩); (with_reducible refine at_any ?_ ?_); (focus go_simp); refine fun K0 hK => wp_ldp (C := SV.R ⟨k, m, c, n, s, t, o, op, lim, [i1, i2, i3, i4], pin, own⟩ p1) (Lib.byteCells zz16) _ w.heap.size 5 _ rfl rfl Q1 rfl Tryd.underlying29 rfl (by kernel_rfl) (hK _ _ ?_)
  clear hK
  go_wp2_with ((with_reducible refine so4 [27, 29, 2000 + 27, 2000 + 29] ?_ ?_); (focus rfl))
  (with_reducible refine ⟨?_⟩); (with_reducible refine at_any ?_ ?_); (focus go_simp); refine fun K0 hK => wp_ldp (C := SV.R ⟨k, m, c, n, s, t, o, op, lim, [i1, i2, i3, i4], pin, own⟩ p2) (Lib.byteCells zz16) _ (w.heap.size + 1) 5 _ rfl rfl Q2 rfl Tryd.underlying29 rfl (by kernel_rfl) (hK _ _ ?_)
  clear hK
  go_wp2_with ((with_reducible refine so4 [27, 29, 2000 + 27, 2000 + 29] ?_ ?_); (focus rfl))
  (with_reducible refine ⟨?_⟩); (with_reducible refine at_any ?_ ?_); (focus go_simp); refine fun K0 hK => wp_eql_dig _ _ _ rfl zz16 zz16 rfl rfl rfl rfl (hK _ _ ?_)
  clear hK
  go_wp2_with ((with_reducible refine so4 [27, 29, 2000 + 27, 2000 + 29] ?_ ?_); (focus rfl))
  (with_reducible refine ⟨?_⟩); (with_reducible refine at_any ?_ ?_); (focus go_simp); refine fun K0 hK => wp_ldp (C := SV.R ⟨k, m, c, n, s, t, o, op, lim, [i1, i2, i3, i4], pin, own⟩ p1) (Lib.byteCells zz16) _ w.heap.size 23 _ rfl rfl Q1 rfl Tryd.underlying29 rfl (by kernel_rfl) (hK _ _ ?_)
  clear hK
  go_wp2_with ((with_reducible refine so4 [27, 29, 2000 + 27, 2000 + 29] ?_ ?_); (focus rfl))
  (with_reducible refine ⟨?_⟩); (with_reducible refine at_any ?_ ?_); (focus go_simp); refine fun K0 hK => wp_ldp (C := SV.R ⟨k, m, c, n, s, t, o, op, lim, [i1, i2, i3, i4], pin, own⟩ p2) (Lib.byteCells zz16) _ (w.heap.size + 1) 23 _ rfl rfl Q2 rfl Tryd.underlying29 rfl (by kernel_rfl) (hK _ _ ?_)
  clear hK
  go_wp2_with ((with_reducible refine so4 [27, 29, 2000 + 27, 2000 + 29] ?_ ?_); (focus rfl))
  (with_reducible refine ⟨?_⟩); (with_reducible refine at_any ?_ ?_); (focus go_simp); refine fun K0 hK => wp_eql_dig _ _ _ rfl zz16 zz16 rfl rfl rfl rfl (hK _ _ ?_)
  clear hK
  go_wp2_with ((with_reducible refine so4 [27, 29, 2000 + 27, 2000 + 29] ?_ ?_); (focus rfl))
  (with_reducible refine ⟨?_⟩); (with_reducible refine at_any ?_ ?_); (focus go_simp); refine fun K0 hK => wp_ldp (C := SV.R ⟨k, m, c, n, s, t, o, op, lim, [i1, i2, i3, i4], pin, own⟩ p1) (Lib.byteCells zz16) _ w.heap.size 39 _ rfl rfl Q1 rfl Tryd.underlying29 rfl (by kernel_rfl) (hK _ _ ?_)
  clear hK
  go_wp2_with ((with_reducible refine so4 [27, 29, 2000 + 27, 2000 + 29] ?_ ?_); (focus rfl))
  (with_reducible refine ⟨?_⟩); (with_reducible refine at_any ?_ ?_); (focus go_simp); refine fun K0 hK => wp_ldp (C := SV.R ⟨k, m, c, n, s, t, o, op, lim, [i1, i2, i3, i4], pin, own⟩ p2) (Lib.byteCells zz16) _ (w.heap.size + 1) 39 _ rfl rfl Q2 rfl Tryd.underlying29 rfl (by kernel_rfl) (hK _ _ ?_)
  clear hK
  go_wp2_with ((with_reducible refine so4 [27, 29, 2000 + 27, 2000 + 29] ?_ ?_); (focus rfl))
  (with_reducible refine ⟨?_⟩); (with_reducible refine at_any ?_ ?_); (focus go_simp); refine fun K0 hK => wp_eql_dig _ _ _ rfl zz16 zz16 rfl rfl rfl rfl (hK _ _ ?_)
  clear hK
  go_wp2_with (go_at_call 62; refine (bsame_eq p1 p2 hpq _ P1 P2).mono ?_; rintro e w2 ⟨rfl, rfl⟩)
  go_ret
  exact ⟨rfl, BB⟩
theorem sizeItem : (Tryd.prog.info? 35).map (·.size) = some 65 := by kernel_rfl
theorem SV.Rlen (x : SV) (hi : x.id.length = 4) (p : Pt) : (x.R p).length = 57 := by
  have h : (Lib.byteCells zz16).length = 16 := rfl
  simp [SV.R, h, byteCells_len, hi]
theorem SV.Ilen (x : SV) (hi : x.id.length = 4) (p q : Pt) : (x.I p q).length = 65 := by simp [SV.I, x.Rlen hi p]
theorem SV.Clen (x : SV) (hi : x.id.length = 4) (p q : Pt) : (x.C p q).length = 67 := by simp [SV.C, x.Ilen hi p q]
theorem SV.part (x : SV) (hi : x.id.length = 4) (p q : Pt) : ((x.C p q).drop 0).take (x.I p q).length = x.I p q := by unfold SV.C; simp
theorem SV.partR (x : SV) (p q : Pt) : ((x.I p q).drop 7).take (x.R p).length = x.R p := by
  have e : x.I p q = [.int .i64 x.k, .int .i64 x.m, .int .i64 x.c, .int .i64 x.n, .int .i64 x.s, .int .i64 x.t, .int .i64 x.o] ++ (x.R p ++ [q.V]) := by simp [SV.I]
  rw [e]
  simp
theorem SV.one (x : SV) (hi : x.id.length = 4) (p q : Pt) : OneC (x.C p q) := by
  intro v hv
  have hb : ∀ l : List UInt8, v ∈ Lib.byteCells l → v.oneCell' = true := fun l h => byteCells_one h
  simp only [SV.C, SV.I, SV.R, List.mem_append, List.mem_cons, List.not_mem_nil, or_false] at hv
  rcases hv with (((h | h | h | h | h | h | h) | (((((h | h) | h) | h | h) | h) | h) | h | h) | h) | h | h
  all_goals first | (subst h; rfl) | exact hb _ h
theorem SV.oneI (x : SV) (hi : x.id.length = 4) (p q : Pt) : (x.I p q).toArray.all (·.oneCell') = true :=
  OneC.arr (fun v hv => x.one hi p q v (by unfold SV.C; exact List.mem_append_left _ hv))
theorem SV.cellI (x : SV) (p q : Pt) (hi : x.id.length = 4) : (x.I p q)[64]? = some q.V := by
  have h := x.Rlen hi p
  have e : x.I p q = ([.int .i64 x.k, .int .i64 x.m, .int .i64 x.c, .int .i64 x.n, .int .i64 x.s, .int .i64 x.t, .int .i64 x.o] ++ x.R p) ++ [q.V] := rfl
  rw [e, List.getElem?_append_right (by simp [h])]
  simp [h]
theorem SV.cellC (x : SV) (p q : Pt) (hi : x.id.length = 4) : (x.C p q)[65]? = some (.string ⟨x.pin.toArray⟩) ∧ (x.C p q)[66]? = some (.string ⟨x.own.toArray⟩) := by
  have h := x.Ilen hi p q
  unfold SV.C
  rw [List.getElem?_append_right (by rw [h]; decide), List.getElem?_append_right (by rw [h]; decide), h]
  exact ⟨rfl, rfl⟩
set_option maxHeartbeats 8000000 in
set_option maxRecDepth 100000 in
theorem same_eq (x : SV) (hi : x.id.length = 4) (p1 p2 q1 q2 : Pt) (hp : p1.l = p2.l) (hq : q1.l = q2.l) (w : World) (hp1 : p1.In w w.heap.size) (hp2 : p2.In w w.heap.size) (hq1 : q1.In w w.heap.size) (hq2 : q2.In w w.heap.size) :
    Calls Tryd.prog 36 #[.agg (x.C p1 q1).toArray, .agg (x.C p2 q2).toArray] w fun e w' => e = .returned (.bool true) ∧ Below w.heap.size w w' := by
  have HP1 := x.part hi p1 q1
  have HP2 := x.part hi p2 q2
  have HL1 := x.Ilen hi p1 q1
  have HL2 := x.Ilen hi p2 q2
  have HO1 := x.oneI hi p1 q1
  have HO2 := x.oneI hi p2 q2
  have Q1 : Bk ((w.alloc (.cells (x.C p1 q1).toArray 37)).alloc (.cells (x.C p2 q2).toArray 37)) w.heap.size 37 (x.C p1 q1).toArray := (Bk.new rfl _ _).more _
  have Q2 : Bk ((w.alloc (.cells (x.C p1 q1).toArray 37)).alloc (.cells (x.C p2 q2).toArray 37)) (w.heap.size + 1) 37 (x.C p2 q2).toArray := Bk.new (by simp) _ _
  have BB : Below w.heap.size w ((w.alloc (.cells (x.C p1 q1).toArray 37)).alloc (.cells (x.C p2 q2).toArray 37)) := ((Below.refl _ _).alloc (Nat.le_refl _) _).alloc (by simp) _
  have HH := Lib.hid (And.intro HP1 (And.intro HP2 (And.intro HL1 (And.intro HL2 (And.intro HO1 (And.intro HO2 (And.intro Q1 (And.intro Q2 BB))))))))
  clear HP1 HP2 HL1 HL2 HO1 HO2 Q1 Q2 BB
  go_enter Tryd.func36, Tryd.ntmps36
  go_wp2
  obtain ⟨HP1, HP2, HL1, HL2, HO1, HO2, Q1, Q2, BB⟩ := HH.out
  clear HH
  generalize ((w.alloc (.cells (x.C p1 q1).toArray 37)).alloc (.cells (x.C p2 q2).toArray 37)) = z0 at Q1 Q2 BB ⊢
  obtain ⟨T, hT⟩ : ∃ T : List (Value → Prop), T = [(fun zz => zz = .pointer (some ⟨w.heap.size, 0, none⟩)), (fun zz => zz = .agg (x.I p1 q1).toArray), (fun zz => zz = .pointer (some ⟨(w.heap.size + 1), 0, none⟩)), (fun zz => zz = .agg (x.I p2 q2).toArray), (fun _ => True), (fun _ => True), (fun _ => True), (fun _ => True)] := ⟨_, rfl⟩
  refine wp_region_gen (JS T [(6, 4), (7, 5)] (SA z0 (x.I p1 q1) (x.I p2 q2) 35)) (by kernel_rfl) (by kernel_rfl) (by kernel_rfl) (fitB_spec (by kernel_rfl)) (fun listed f h => JS.start listed f h (SA.start listed f h)) ?_ ?_
  · intro i o ho
    have hi : i < 8 := (Array.getElem?_eq_some_iff.1 ho).1
    have hi' : i = 0 ∨ i = 1 ∨ i = 2 ∨ i = 3 ∨ i = 4 ∨ i = 5 ∨ i = 6 ∨ i = 7 := by omega
    clear hi
    rcases hi' with rfl | rfl | rfl | rfl | rfl | rfl | rfl | rfl
    all_goals (simp only [List.getElem?_toArray, List.getElem?_cons_zero, List.getElem?_cons_succ, Option.some.injEq] at ho; subst ho; intro listed f a w2 hJ hsz hls hun hdep hout hlat)
    · rw [if_pos (by rfl)]
      intro K hK
      have q2 := hout 2 (outB_spec (by kernel_rfl))
      have hord : ∀ x ∈ ([(6, 4), (7, 5)] : List (Nat × Nat)), x.1 = 0 → listed.getD x.2 false = true := by simp
      rw [Array.getD_eq_getD_getElem?] at q2
      clear hsz hdep hout hlat
      go_simp
      exact hK _ _ (hJ.next (by rw [hls]; decide) (by rw [hT]; rfl) (hJ.st.plain (by decide) _) hord)
    · rw [if_pos (by rfl)]
      intro K hK
      have q7 := hJ.is hT (hdep ⟨0, .data⟩ (by simp) rfl) rfl _ rfl _ rfl
      have hord : ∀ x ∈ ([(6, 4), (7, 5)] : List (Nat × Nat)), x.1 = 1 → listed.getD x.2 false = true := by simp
      exact wp_ldp (C := x.C p1 q1) (x.I p1 q1) (.tmp 7) w.heap.size 0 _ rfl q7 (Q1.ext hJ.st.bel) HP1 Tryd.underlying35 rfl (by rw [sizeItem, HL1]) (hK _ _ (hJ.next (by rw [hls]; decide) (by rw [hT]; rfl) (hJ.st.plain (by decide) _) hord))
    · rw [if_pos (by rfl)]
      intro K hK
      have q3 := hout 3 (outB_spec (by kernel_rfl))
      have hord : ∀ x ∈ ([(6, 4), (7, 5)] : List (Nat × Nat)), x.1 = 2 → listed.getD x.2 false = true := by simp
      rw [Array.getD_eq_getD_getElem?] at q3
      clear hsz hdep hout hlat
      go_simp
      exact hK _ _ (hJ.next (by rw [hls]; decide) (by rw [hT]; rfl) (hJ.st.plain (by decide) _) hord)
    · rw [if_pos (by rfl)]
      intro K hK
      have q9 := hJ.is hT (hdep ⟨2, .data⟩ (by simp) rfl) rfl _ rfl _ rfl
      have hord : ∀ x ∈ ([(6, 4), (7, 5)] : List (Nat × Nat)), x.1 = 3 → listed.getD x.2 false = true := by simp
      exact wp_ldp (C := x.C p2 q2) (x.I p2 q2) (.tmp 9) (w.heap.size + 1) 0 _ rfl q9 (Q2.ext hJ.st.bel) HP2 Tryd.underlying35 rfl (by rw [sizeItem, HL2]) (hK _ _ (hJ.next (by rw [hls]; decide) (by rw [hT]; rfl) (hJ.st.plain (by decide) _) hord))
    · rw [if_pos (by rfl)]
      intro K hK
      have hord : ∀ x ∈ ([(6, 4), (7, 5)] : List (Nat × Nat)), x.1 = 4 → listed.getD x.2 false = true := by simp
      have h6 : listed.getD 6 false = false := by
        cases hc : listed.getD 6 false with
        | false => rfl
        | true => exact absurd (hJ.ord (6, 4) (by simp) hc) (by rw [hun]; decide)
      clear hsz hdep hout hlat
      go_simp
      exact hK _ _ (hJ.next (by rw [hls]; decide) (by rw [hT]; exact trivial) (hJ.st.al4 (by rw [hls]; decide) h6 ((stepZ 0).take 65) rfl) hord)
    · rw [if_pos (by rfl)]
      intro K hK
      have hord : ∀ x ∈ ([(6, 4), (7, 5)] : List (Nat × Nat)), x.1 = 5 → listed.getD x.2 false = true := by simp
      have h7 : listed.getD 7 false = false := by
        cases hc : listed.getD 7 false with
        | false => rfl
        | true => exact absurd (hJ.ord (7, 5) (by simp) hc) (by rw [hun]; decide)
      clear hsz hdep hout hlat
      go_simp
      exact hK _ _ (hJ.next (by rw [hls]; decide) (by rw [hT]; exact trivial) (hJ.st.al5 (by rw [hls]; decide) h7 ((stepZ 0).take 65) rfl) hord)
    · rw [if_pos (by rfl)]
      intro K hK
      have dd := hdep ⟨4, .data⟩ (by simp) rfl
      have qp := dd.2 _ rfl _ rfl
      have qv := hJ.is hT (hdep ⟨1, .data⟩ (by simp) rfl) rfl _ rfl _ rfl
      have hord : ∀ x ∈ ([(6, 4), (7, 5)] : List (Nat × Nat)), x.1 = 6 → listed.getD x.2 false = true := by
        intro x hx e
        simp only [List.mem_cons, List.not_mem_nil, or_false] at hx
        rcases hx with rfl | rfl
        · exact dd.1
        · exact absurd e (by decide)
      obtain ⟨a9, e9, cs, hc, hb, hk⟩ := hJ.st.st6 HL1 dd.1
      rw [e9] at qp
      exact wp_stp (C := cs) (x.I p1 q1) (.tmp 5) (.tmp 8) a9 0 rfl qp qv hb (by rw [hc, HL1]; decide) (by rw [sizeItem, HL1]) HO1 (fun w' hb' ho => hK _ _ (hJ.next (by rw [hls]; decide) (by rw [hT]; exact trivial) (hk _ w' (by rw [List.take_zero, List.nil_append, HL1, List.drop_of_length_le (by rw [hc]; decide), List.append_nil] at hb'; exact hb') ho) hord))
    · rw [if_pos (by rfl)]
      intro K hK
      have dd := hdep ⟨5, .data⟩ (by simp) rfl
      have qp := dd.2 _ rfl _ rfl
      have qv := hJ.is hT (hdep ⟨3, .data⟩ (by simp) rfl) rfl _ rfl _ rfl
      have hord : ∀ x ∈ ([(6, 4), (7, 5)] : List (Nat × Nat)), x.1 = 7 → listed.getD x.2 false = true := by
        intro x hx e
        simp only [List.mem_cons, List.not_mem_nil, or_false] at hx
        rcases hx with rfl | rfl
        · exact absurd e (by decide)
        · exact dd.1
      obtain ⟨a9, e9, cs, hc, hb, hk⟩ := hJ.st.st7 HL2 dd.1
      rw [e9] at qp
      exact wp_stp (C := cs) (x.I p2 q2) (.tmp 6) (.tmp 10) a9 0 rfl qp qv hb (by rw [hc, HL2]; decide) (by rw [sizeItem, HL2]) HO2 (fun w' hb' ho => hK _ _ (hJ.next (by rw [hls]; decide) (by rw [hT]; exact trivial) (hk _ w' (by rw [List.take_zero, List.nil_append, HL2, List.drop_of_length_le (by rw [hc]; decide), List.append_nil] at hb'; exact hb') ho) hord))
  · intro listed f w2 hall hJ
    obtain ⟨a, b, ea, eb, ha, hb, A1, A2⟩ := hJ.st.fin (hall 4 (by simp)) (hall 5 (by simp)) (hall 6 (by simp)) (hall 7 (by simp))
    have BL := hJ.st.bel
    simp only [putAll, Act.put, List.setIfInBounds_toArray, List.set_cons_zero, List.set_cons_succ, Nat.zero_add, Nat.reduceAdd]
    rw [ea, eb]
    clear hJ hall hT
    generalize f 0 = y0
    generalize f 1 = y1
    generalize f 2 = y2
    generalize f 3 = y3
    clear ea eb
    have d1_0 : w2.cell? ⟨a, 0, none⟩ = some (.int .i64 x.k) := by rw [A1.cell]; rfl
    have d1_1 : w2.cell? ⟨a, 1, none⟩ = some (.int .i64 x.m) := by rw [A1.cell]; rfl
    have d1_2 : w2.cell? ⟨a, 2, none⟩ = some (.int .i64 x.c) := by rw [A1.cell]; rfl
    have d1_3 : w2.cell? ⟨a, 3, none⟩ = some (.int .i64 x.n) := by rw [A1.cell]; rfl
    have d1_4 : w2.cell? ⟨a, 4, none⟩ = some (.int .i64 x.s) := by rw [A1.cell]; rfl
    have d1_5 : w2.cell? ⟨a, 5, none⟩ = some (.int .i64 x.t) := by rw [A1.cell]; rfl
    have d1_6 : w2.cell? ⟨a, 6, none⟩ = some (.int .i64 x.o) := by rw [A1.cell]; rfl
    have d2_0 : w2.cell? ⟨b, 0, none⟩ = some (.int .i64 x.k) := by rw [A2.cell]; rfl
    have d2_1 : w2.cell? ⟨b, 1, none⟩ = some (.int .i64 x.m) := by rw [A2.cell]; rfl
    have d2_2 : w2.cell? ⟨b, 2, none⟩ = some (.int .i64 x.c) := by rw [A2.cell]; rfl
    have d2_3 : w2.cell? ⟨b, 3, none⟩ = some (.int .i64 x.n) := by rw [A2.cell]; rfl
    have d2_4 : w2.cell? ⟨b, 4, none⟩ = some (.int .i64 x.s) := by rw [A2.cell]; rfl
    have d2_5 : w2.cell? ⟨b, 5, none⟩ = some (.int .i64 x.t) := by rw [A2.cell]; rfl
    have d2_6 : w2.cell? ⟨b, 6, none⟩ = some (.int .i64 x.o) := by rw [A2.cell]; rfl
    have d1_64 : w2.cell? ⟨a, 64, none⟩ = some q1.V := by rw [A1.cell, List.getElem?_toArray]; exact x.cellI p1 q1 hi
    have d2_64 : w2.cell? ⟨b, 64, none⟩ = some q2.V := by rw [A2.cell, List.getElem?_toArray]; exact x.cellI p2 q2 hi
    have QQ1 := Q1.ext BL
    have QQ2 := Q2.ext BL
    have e1_65 : w2.cell? ⟨w.heap.size, 65, none⟩ = some (.string ⟨x.pin.toArray⟩) := by rw [QQ1.cell, List.getElem?_toArray]; exact (x.cellC p1 q1 hi).1
    have e1_66 : w2.cell? ⟨w.heap.size, 66, none⟩ = some (.string ⟨x.own.toArray⟩) := by rw [QQ1.cell, List.getElem?_toArray]; exact (x.cellC p1 q1 hi).2
    have e2_65 : w2.cell? ⟨w.heap.size + 1, 65, none⟩ = some (.string ⟨x.pin.toArray⟩) := by rw [QQ2.cell, List.getElem?_toArray]; exact (x.cellC p2 q2 hi).1
    have e2_66 : w2.cell? ⟨w.heap.size + 1, 66, none⟩ = some (.string ⟨x.own.toArray⟩) := by rw [QQ2.cell, List.getElem?_toArray]; exact (x.cellC p2 q2 hi).2
    have XX : Ex w w2 := BB.trans (BL.mono BB.size)
    have P1 := hp1.ext XX
    have P2 := hp2.ext XX
    have P3 := hq1.ext XX
    have P4 := hq2.ext XX
    go_wp2_with (first
      | ((with_reducible refine so4 [33] ?_ ?_); (focus rfl))
      | (go_at_call 62; refine (bsame_eq q1 q2 hq _ P3 P4).mono ?_; rintro e w9 ⟨rfl, rfl⟩))
    (with_reducible refine ⟨?_⟩); (with_reducible refine at_any ?_ ?_); (focus go_simp); refine fun K0 hK => wp_ldp (C := x.I p1 q1) (x.R p1) _ a 7 _ rfl rfl A1 (x.partR p1 q1) Tryd.underlying33 rfl (by rw [x.Rlen hi]; kernel_rfl) (hK _ _ ?_)
    clear hK
    go_wp2_with ((with_reducible refine so4 [33] ?_ ?_); (focus rfl))
    (with_reducible refine ⟨?_⟩); (with_reducible refine at_any ?_ ?_); (focus go_simp); refine fun K0 hK => wp_ldp (C := x.I p2 q2) (x.R p2) _ b 7 _ rfl rfl A2 (x.partR p2 q2) Tryd.underlying33 rfl (by rw [x.Rlen hi]; kernel_rfl) (hK _ _ ?_)
    clear hK
    go_wp2_with (go_at_call 63; refine (sreq_eq x hi p1 p2 hp _ P1 P2).mono ?_; rintro e w9 ⟨rfl, b9⟩)
    go_ret
    exact ⟨rfl, Ex.trans XX b9⟩
end Go.Proofs.YtgkmfhhoifbbbaaDoor
