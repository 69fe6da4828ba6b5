/- roster.Without; With and Without of any list -/
import Derived.Test.YtgoiidpcdifojaaRoF
namespace Go.Proofs.Ytgoiidpcdifojaa
open Go.RowKit
theorem at_not {P : Program} {ops : Array Oper} {rest : List Oper} {d : Option Tmp} {x : Op} {t2 : TypeId} {pos : String} {af : Array Edge} {g : Option (Nat × Bool)} {a : Act} {w : World} {Q : Exit → Act → World → Prop}
    (hw : Region.wanted { dst := d, op := x, type := t2, pos := pos, after := af, guard := g } (yielded ops a.tmps) = false)
    (k : wpList P ops Q rest (a.put d undef) w) : wpList P ops Q ({ dst := d, op := x, type := t2, pos := pos, after := af, guard := g } :: rest) a w :=
  wpList_step fun K hK => by rw [if_neg (by rw [hw]; simp)]; exact hK _ _ k
set_option maxHeartbeats 4000000 in
set_option maxRecDepth 100000 in
theorem less_go (v : Int) (p : Pt) (x : Int) (w : World) (hp : p.In w w.heap.size) (hr : rightB v p.l = true) (hx : decide (x ∈ p.l) = true) :
    Calls Try.prog 35 #[LV v p, .int .i64 x] w (LvPost (nextV v (delL x p.l)) (nextL v (delL x p.l)) (rightB (v + 1) (delL x p.l)) w) := by
  have hxx : ∀ W : World, Ex w W → p.In W W.heap.size := fun W h => hp.ext h
  have H := Lib.hid (fun W h => (show Calls Try.prog 36 #[LV v p, .int .i64 x] W fun e w' => e = .returned (.bool true) ∧ Below W.heap.size W w' by
    have := has_any v p x W (hxx W h); unfold hasB at this; rwa [hr, hx] at this))
  obtain ⟨v1, v2, n1, n8, good⟩ := right_len hr
  have S := Lib.hid (fun W h => bsearch_any p x W (hxx W h) n8 (fun i j hij hj => by
    have := good_sorted good (j - i) i (by omega); rwa [show i + (j - i) = j by omega] at this))
  have CNX := Lib.hid (fun (i : Nat) (h1 : i + 1 ≤ p.l.length) (h2 : ∀ j, j < i → p.l.getD j 0 < x) (h3 : ∀ j, i ≤ j → j < p.l.length → x ≤ p.l.getD j 0) (ps : List Pt) (g : Nat) (W : World) (hl : ps.map (·.l) = [p.l.take i, p.l.drop (i + 1)]) (hb : Bk W g 43 (ps.map (·.V)).toArray) (hi : ∀ q ∈ ps, q.In W W.heap.size) =>
    (show Calls Try.prog 52 #[LV v p, .slice (some ⟨g, 0, none⟩) 2 2] W (LvPost (nextV v (delL x p.l)) (nextL v (delL x p.l)) (rightB (v + 1) (delL x p.l)) W) by
      have e3 : ps.length = 2 := by have := congrArg List.length hl; simpa using this
      obtain ⟨e1, e2⟩ := split_at (Nat.le_of_succ_le h1) h2 h3
      have ei : p.l.take i ++ p.l.drop (i + 1) = delL x p.l := by unfold delL; rw [← e1, ← e2, List.drop_drop]
      have ef : flatL ps ps.length = delL x p.l := by rw [← ei]; unfold flatL; rw [List.take_length, hl]; simp
      have := next_any v (by omega) v2 p.V ps g 2 W hb hi (by rw [ef, ← ei]; simp; omega) (by omega)
      rw [ef, e3] at this
      exact this))
  generalize nextV v (delL x p.l) = Vn at *
  generalize nextL v (delL x p.l) = Ln at *
  generalize rightB (v + 1) (delL x p.l) = bq at *
  obtain ⟨a9, o9, had, halt, _⟩ := hp.read (by omega)
  obtain ⟨ad, cap, l⟩ := p
  simp only at had
  subst had
  simp only at *
  have HX := Lib.hid (show x ∈ l from of_decide_eq_true hx)
  have hcap := hp.cap
  simp only at hcap
  have HCAP := Lib.hid hcap
  obtain ⟨n, hn⟩ : ∃ n, n = l.length := ⟨_, rfl⟩
  have HN := Lib.hid hn
  obtain ⟨p, hpp⟩ : ∃ p : Pt, p = ⟨some ⟨a9, o9, none⟩, cap, l⟩ := ⟨_, rfl⟩
  have hpv : p.V = .slice (some ⟨a9, o9, none⟩) n cap := by rw [hpp, hn]; rfl
  rw [← hpp] at H S CNX hp hxx ⊢
  have hLV : LV v p = .agg #[.int .u64 v, .slice (some ⟨a9, o9, none⟩) n cap] := by unfold LV; rw [hpv]
  have HLV := Lib.hid hLV
  have HP := Lib.hid hpp
  have bw : Ex w ((w.alloc (.cells #[.int .u64 v, .slice (some ⟨a9, o9, none⟩) n cap] 45)).alloc (.cells #[.int .u64 0, .slice none 0 0] 45)) := ((Below.refl _ _).alloc (Nat.le_refl _) _).alloc (by simp) _
  have BW := Lib.hid bw
  have b0 : Hid (LB ((w.alloc (.cells #[.int .u64 v, .slice (some ⟨a9, o9, none⟩) n cap] 45)).alloc (.cells #[.int .u64 0, .slice none 0 0] 45)) w.heap.size v p) := by
    unfold LB; rw [hpv]; exact Lib.hid ((Bk.new rfl _ _).more _)
  have b1 := Lib.hid (show LB ((w.alloc (.cells #[.int .u64 v, .slice (some ⟨a9, o9, none⟩) n cap] 45)).alloc (.cells #[.int .u64 0, .slice none 0 0] 45)) (w.heap.size + 1) 0 nilP from Bk.new (by simp) _ _)
  have PIN := Lib.hid hxx
  rw [show (Calls Try.prog 35 #[LV v p, .int .i64 x] w) = (Calls Try.prog 35 #[.agg #[.int .u64 v, .slice (some ⟨a9, o9, none⟩) n cap], .int .i64 x] w) by rw [hLV]]
  clear bw hxx hp hpv hLV hpp hn hr hx good hcap
  go_enter Try.func35, Try.ntmps35
  go_wp2_with (first | (with_reducible refine stop_load45 ?_) | (with_reducible refine stop_store45 ?_))
  have bw := BW.out
  generalize hw1 : (w.alloc (.cells #[.int .u64 v, .slice (some ⟨a9, o9, none⟩) n cap] 45)).alloc (.cells #[.int .u64 0, .slice none 0 0] 45) = w1 at *
  obtain ⟨B, hB⟩ : ∃ B, B = w.heap.size := ⟨_, rfl⟩
  rw [← hB] at b0 b1 ⊢
  have HB := Lib.hid hB
  clear hw1 hB BW
  have A2 := b0
  have Z2 := b1
  have bw2 := bw
  clear b0 b1 bw
  (with_reducible refine ⟨?_⟩); (with_reducible refine at_any ?_ ?_); (focus go_simp); refine fun K hK => wp_ld45 _ B v p rfl rfl A2.out (hK _ _ ?_)
  clear hK
  go_wp2_with (first | (with_reducible refine stop_load45 ?_) | (with_reducible refine stop_store45 ?_))
  refine (H.out _ bw2).mono ?_
  rintro e w3 ⟨rfl, x3⟩
  have AB := Lib.hid (LB.ext A2.out x3)
  have ZB := Lib.hid (LB.ext Z2.out x3)
  have bw := Ex.trans bw2 x3
  clear A2 Z2 bw2 x3 H
  have c1 : w3.cell? ⟨B, 1, none⟩ = some (.slice (some ⟨a9, o9, none⟩) n cap) := by
    have := Bk.cell AB.out 1; rw [HP.out] at this; rw [this, HN.out]; rfl
  have CB := Lib.hid c1
  have S2 := S.out _ bw
  rw [show p.V = .slice (some ⟨a9, o9, none⟩) n cap by rw [HP.out, HN.out]; rfl] at S2
  clear S
  go_wp2_with (first | (with_reducible refine stop_load45 ?_) | (with_reducible refine stop_store45 ?_))
  refine S2.mono ?_
  rintro e w4 ⟨i, b, rfl, hi0, lo, hh, rfl⟩
  have hi : i + 1 ≤ l.length := by
    rcases Nat.lt_or_ge i l.length with h | h
    · exact h
    · obtain ⟨j, hj, ej⟩ := List.getElem_of_mem (HX.out)
      have := lo j (by omega)
      rw [show l.getD j 0 = l[j] by simp [List.getD, hj], ej] at this
      omega
  go_wp2_with (first | (with_reducible refine stop_load45 ?_) | (with_reducible refine stop_store45 ?_))
  have HI := Lib.hid hi
  have CN := Lib.hid (CNX.out i hi lo hh)
  generalize w3 = wr at *
  have I0 := Lib.hid (show (0 : Int) ≤ (i : Int) by omega)
  have I1 := Lib.hid (show (i : Int) ≤ (cap : Int) by have := HCAP.out; omega)
  have I2 := Lib.hid (show (i : Int) ≤ (n : Int) by have := HN.out; omega)
  have I3 := Lib.hid (show (n : Int) ≤ (cap : Int) by have := HCAP.out; have := HN.out; omega)
  have HDL := Lib.hid (show (l.drop (i + 1)).length = n - (i + 1) by have := HN.out; simp; omega)
  have I4 := Lib.hid (show (i : Int) + 1 ≤ (n : Int) by have := HN.out; omega)
  have I5 := Lib.hid (show (0 : Int) ≤ (i : Int) + 1 by omega)
  have IP := Lib.hid (show IntKind.i64.wrap ((i : Int) + 1) = ((i + 1 : Nat) : Int) by rw [IntKind.wrap_i64]; omega)
  have HTK := Lib.hid (show (l.take i).length = i by simp; omega)
  have HBw := Lib.hid (Bk.lt AB.out)
  have TKI := Lib.hid (fun (W : World) (h : Ex wr W) => take_in (i := i) (show (Pt.mk (some ⟨a9, o9, none⟩) cap l).In W W.heap.size by rw [← HP.out]; exact PIN.out W (Ex.trans bw h)))
  have DRI := Lib.hid (fun (W : World) (h : Ex wr W) (ad : Option Addr) (had : i + 1 < l.length → ad = some ⟨a9, o9 + (i + 1), none⟩) (hne : ad ≠ none) => drop_in (i := i + 1) ad had hne (show (Pt.mk (some ⟨a9, o9, none⟩) cap l).In W W.heap.size by rw [← HP.out]; exact PIN.out W (Ex.trans bw h)) HI.out)
  clear CNX lo hh hi hi0 c1 n1 n8 v1 v2 PIN S2
  obtain ⟨T, hT⟩ : ∃ T : List Ar, T = [.is (LV v p), .is (.pointer (some ⟨B, 1, none⟩)), .is (.slice (some ⟨a9, o9, none⟩) n cap), .is (.int .i64 i), .pt (l.take i), .is (.pointer (some ⟨B, 1, none⟩)), .is (.slice (some ⟨a9, o9, none⟩) n cap), .is (.int .i64 i), .is (.int .i64 (i + 1 : Nat)), .pt (l.drop (i + 1)), .rows [l.take i, l.drop (i + 1)], .tup (Vn) (Ln) (bq), .lv (Vn) (Ln), .is (.bool bq)] := ⟨_, rfl⟩
  refine wp_region_flow2 14 (arPhi T) (by kernel_rfl) rfl (by kernel_rfl) (by kernel_rfl) (by kernel_rfl) (by kernel_rfl) (arPhi_stable T) (fitB_spec (by kernel_rfl)) ?_ ?_
  · intro i o hi ho
    have hi' : i = 0 ∨ i = 1 ∨ i = 2 ∨ i = 3 ∨ i = 4 ∨ i = 5 ∨ i = 6 ∨ i = 7 ∨ i = 8 ∨ i = 9 ∨ i = 10 ∨ i = 11 ∨ i = 12 ∨ i = 13 := by omega
    clear hi
    rcases hi' with rfl | rfl | rfl | rfl | rfl | rfl | rfl | rfl | rfl | rfl | rfl | rfl | rfl | rfl
    all_goals (simp only [List.getElem?_toArray, List.getElem?_cons_zero, List.getElem?_cons_succ, Option.some.injEq] at ho; subst ho; intro a w2 hx hsz hdep hout)
    · rw [if_pos (by rfl)]
      intro K hK
      have q2 := hout 2 (outB_spec (by kernel_rfl))
      exact wp_ld45 _ B v p rfl q2 (LB.ext AB.out (Ex.trans (show Ex wr wr.drew from (Below.refl _ _).drew) hx)) (hK _ _ (Ex.refl _) (by rw [hT]; rfl))
    · rw [if_pos (by rfl)]
      intro K hK
      have q2 := hout 2 (outB_spec (by kernel_rfl))
      clear hsz hdep hout
      go_simp
      exact hK _ _ (Ex.refl _) (by rw [hT]; rfl)
    · rw [if_pos (by rfl)]
      intro K hK
      obtain ⟨v21, h21, k21⟩ := hdep ⟨1, .data⟩ (by simp) rfl _ rfl
      have q21 := k21 _ rfl
      clear k21
      rw [hT] at h21
      obtain rfl : v21 = .pointer (some ⟨B, 1, none⟩) := h21
      have f1 : w2.cell? ⟨B, 1, none⟩ = some (.slice (some ⟨a9, o9, none⟩) n cap) := (Below.cell (p := ⟨B, 1, none⟩) (Ex.trans (show Ex wr wr.drew from (Below.refl _ _).drew) hx) HBw.out).trans CB.out
      clear hsz hdep hout
      go_simp
      exact hK _ _ (Ex.refl _) (by rw [hT]; rfl)
    · rw [if_pos (by rfl)]
      intro K hK
      have q6 := hout 6 (outB_spec (by kernel_rfl))
      exact wp_mv _ rfl (hK _ _ (Ex.refl _) (by rw [hT]; exact q6))
    · rw [if_pos (by rfl)]
      intro K hK
      obtain ⟨v22, h22, k22⟩ := hdep ⟨2, .data⟩ (by simp) rfl _ rfl
      have q22 := k22 _ rfl
      clear k22
      rw [hT] at h22
      obtain rfl : v22 = .slice (some ⟨a9, o9, none⟩) n cap := h22
      obtain ⟨v23, h23, k23⟩ := hdep ⟨3, .data⟩ (by simp) rfl _ rfl
      have q23 := k23 _ rfl
      clear k23
      rw [hT] at h23
      obtain rfl : v23 = .int .i64 i := h23
      rw [Array.getD_eq_getD_getElem?] at q22
      rw [Array.getD_eq_getD_getElem?] at q23
      clear hsz hdep hout
      have i0 := I0.out
      have i1 := I1.out
      go_simp
      exact hK _ _ (Ex.refl _) (by rw [hT]; exact ⟨⟨some ⟨a9, o9, none⟩, cap, l.take i⟩, by unfold Pt.V; rw [HTK.out], rfl, TKI.out _ (Ex.trans (show Ex wr wr.drew from (Below.refl _ _).drew) hx)⟩)
    · rw [if_pos (by rfl)]
      intro K hK
      have q2 := hout 2 (outB_spec (by kernel_rfl))
      clear hsz hdep hout
      go_simp
      exact hK _ _ (Ex.refl _) (by rw [hT]; rfl)
    · rw [if_pos (by rfl)]
      intro K hK
      obtain ⟨v25, h25, k25⟩ := hdep ⟨5, .data⟩ (by simp) rfl _ rfl
      have q25 := k25 _ rfl
      clear k25
      rw [hT] at h25
      obtain rfl : v25 = .pointer (some ⟨B, 1, none⟩) := h25
      have f1 : w2.cell? ⟨B, 1, none⟩ = some (.slice (some ⟨a9, o9, none⟩) n cap) := (Below.cell (p := ⟨B, 1, none⟩) (Ex.trans (show Ex wr wr.drew from (Below.refl _ _).drew) hx) HBw.out).trans CB.out
      clear hsz hdep hout
      go_simp
      exact hK _ _ (Ex.refl _) (by rw [hT]; rfl)
    · rw [if_pos (by rfl)]
      intro K hK
      have q6 := hout 6 (outB_spec (by kernel_rfl))
      exact wp_mv _ rfl (hK _ _ (Ex.refl _) (by rw [hT]; exact q6))
    · rw [if_pos (by rfl)]
      intro K hK
      obtain ⟨v27, h27, k27⟩ := hdep ⟨7, .data⟩ (by simp) rfl _ rfl
      have q27 := k27 _ rfl
      clear k27
      rw [hT] at h27
      obtain rfl : v27 = .int .i64 i := h27
      have HI := IP.out
      clear hsz hdep hout
      go_simp
      exact hK _ _ (Ex.refl _) (by rw [hT]; exact ret_i64 (by omega))
    · rw [if_pos (by rfl)]
      intro K hK
      obtain ⟨v26, h26, k26⟩ := hdep ⟨6, .data⟩ (by simp) rfl _ rfl
      have q26 := k26 _ rfl
      clear k26
      rw [hT] at h26
      obtain rfl : v26 = .slice (some ⟨a9, o9, none⟩) n cap := h26
      obtain ⟨v28, h28, k28⟩ := hdep ⟨8, .data⟩ (by simp) rfl _ rfl
      have q28 := k28 _ rfl
      clear k28
      rw [hT] at h28
      obtain rfl : v28 = .int .i64 (i + 1 : Nat) := h28
      rw [Array.getD_eq_getD_getElem?] at q26
      rw [Array.getD_eq_getD_getElem?] at q28
      clear hsz hdep hout
      have i0 := I0.out
      have i1 := I1.out
      have i2 := I2.out
      have i3 := I3.out
      have i4 := I4.out
      have i5 := I5.out
      go_simp
      exact hK _ _ (Ex.refl _) (by rw [hT]; exact ⟨⟨if cap = i + 1 then some ⟨a9, o9, none⟩ else some ⟨a9, o9 + (i + 1), none⟩, cap - (i + 1), l.drop (i + 1)⟩, by unfold Pt.V; rw [HDL.out], rfl, DRI.out _ (Ex.trans (show Ex wr wr.drew from (Below.refl _ _).drew) hx) _ (fun h => if_neg (by have := HCAP.out; omega)) (by split <;> simp)⟩)
    · rw [if_pos (by rfl)]
      intro K hK
      obtain ⟨v24, h24, k24⟩ := hdep ⟨4, .data⟩ (by simp) rfl _ rfl
      have q24 := k24 _ rfl
      clear k24
      rw [hT] at h24
      obtain ⟨p24, rfl, l24, i24⟩ := h24
      obtain ⟨v29, h29, k29⟩ := hdep ⟨9, .data⟩ (by simp) rfl _ rfl
      have q29 := k29 _ rfl
      clear k29
      rw [hT] at h29
      obtain ⟨p29, rfl, l29, i29⟩ := h29
      rw [Array.getD_eq_getD_getElem?] at q24
      rw [Array.getD_eq_getD_getElem?] at q29
      unfold Pt.V at q24
      unfold Pt.V at q29
      replace l24 := Lib.hid l24
      replace l29 := Lib.hid l29
      clear hsz hdep hout
      go_simp
      exact hK _ _ ((Below.refl _ _).alloc (Nat.le_refl _) _) (by rw [hT]; exact ⟨w2.heap.size, [p24, p29], rfl, by simp [l24.out, l29.out], fun p' hp' => by simp at hp'; rcases hp' with rfl | rfl <;> exact Pt.In.ext (by assumption) ((Below.refl _ _).alloc (Nat.le_refl _) _), Bk.new rfl _ _⟩)
    · rw [if_pos (by rfl)]
      intro K hK
      obtain ⟨v20, h20, k20⟩ := hdep ⟨0, .data⟩ (by simp) rfl _ rfl
      have q20 := k20 _ rfl
      clear k20
      rw [hT] at h20
      obtain rfl : v20 = LV v p := h20
      obtain ⟨v30, h30, k30⟩ := hdep ⟨10, .data⟩ (by simp) rfl _ rfl
      have q30 := k30 _ rfl
      clear k30
      rw [hT] at h30
      obtain ⟨g30, P30, rfl, l30, i30, b30⟩ := h30
      clear hsz hdep hout
      go_simp
      have cn := CN.out P30 g30 w2 l30 b30 i30
      refine cn.mono ?_
      rintro e w3 ⟨q, rfl, lq, iq, xq⟩
      exact hK _ _ xq (by rw [hT]; exact ⟨q, rfl, lq, iq⟩)
    · rw [if_pos (by rfl)]
      intro K hK
      obtain ⟨v31, h31, k31⟩ := hdep ⟨11, .data⟩ (by simp) rfl _ rfl
      have q31 := k31 _ rfl
      clear k31
      rw [hT] at h31
      obtain ⟨p31, rfl, l31, i31⟩ := h31
      rw [Array.getD_eq_getD_getElem?] at q31
      clear hsz hdep hout
      unfold LV at q31
      go_simp
      exact hK _ _ (Ex.refl _) (by rw [hT]; exact ⟨p31, rfl, l31, i31⟩)
    · rw [if_pos (by rfl)]
      intro K hK
      obtain ⟨v31, h31, k31⟩ := hdep ⟨11, .data⟩ (by simp) rfl _ rfl
      have q31 := k31 _ rfl
      clear k31
      rw [hT] at h31
      obtain ⟨p31, rfl, l31, i31⟩ := h31
      rw [Array.getD_eq_getD_getElem?] at q31
      clear hsz hdep hout
      go_simp
      exact hK _ _ (Ex.refl _) (by rw [hT]; rfl)
  · intro a w2 hx hdef hsz hdone hout
    obtain ⟨v32, h32, k32⟩ := hdone 12 _ (by omega) rfl
    have q32 := k32 _ rfl
    clear k32
    rw [hT] at h32
    obtain ⟨p32, rfl, l32, i32⟩ := h32
    obtain ⟨v33, h33, k33⟩ := hdone 13 _ (by omega) rfl
    have q33 := k33 _ rfl
    clear k33
    rw [hT] at h33
    obtain rfl : v33 = .bool bq := h33
    clear hdone hT
    have hA := arr_range a.tmps 34 hsz
    change a.tmps = #[a.tmps[0]?.getD undef, a.tmps[1]?.getD undef, a.tmps[2]?.getD undef, a.tmps[3]?.getD undef, a.tmps[4]?.getD undef, a.tmps[5]?.getD undef, a.tmps[6]?.getD undef, a.tmps[7]?.getD undef, a.tmps[8]?.getD undef, a.tmps[9]?.getD undef, a.tmps[10]?.getD undef, a.tmps[11]?.getD undef, a.tmps[12]?.getD undef, a.tmps[13]?.getD undef, a.tmps[14]?.getD undef, a.tmps[15]?.getD undef, a.tmps[16]?.getD undef, a.tmps[17]?.getD undef, a.tmps[18]?.getD undef, a.tmps[19]?.getD undef, a.tmps[20]?.getD undef, a.tmps[21]?.getD undef, a.tmps[22]?.getD undef, a.tmps[23]?.getD undef, a.tmps[24]?.getD undef, a.tmps[25]?.getD undef, a.tmps[26]?.getD undef, a.tmps[27]?.getD undef, a.tmps[28]?.getD undef, a.tmps[29]?.getD undef, a.tmps[30]?.getD undef, a.tmps[31]?.getD undef, a.tmps[32]?.getD undef, a.tmps[33]?.getD undef] at hA
    have e0 := hout 0 (fun i o _ h => outB_spec (by kernel_rfl) i o h)
    have e1 := hout 1 (fun i o _ h => outB_spec (by kernel_rfl) i o h)
    have e2 := hout 2 (fun i o _ h => outB_spec (by kernel_rfl) i o h)
    have e3 := hout 3 (fun i o _ h => outB_spec (by kernel_rfl) i o h)
    have e4 := hout 4 (fun i o _ h => outB_spec (by kernel_rfl) i o h)
    have e6 := hout 6 (fun i o _ h => outB_spec (by kernel_rfl) i o h)
    have e7 := hout 7 (fun i o _ h => outB_spec (by kernel_rfl) i o h)
    have e8 := hout 8 (fun i o _ h => outB_spec (by kernel_rfl) i o h)
    have e9 := hout 9 (fun i o _ h => outB_spec (by kernel_rfl) i o h)
    have e10 := hout 10 (fun i o _ h => outB_spec (by kernel_rfl) i o h)
    have e11 := hout 11 (fun i o _ h => outB_spec (by kernel_rfl) i o h)
    have e12 := hout 12 (fun i o _ h => outB_spec (by kernel_rfl) i o h)
    have e13 := hout 13 (fun i o _ h => outB_spec (by kernel_rfl) i o h)
    have e14 := hout 14 (fun i o _ h => outB_spec (by kernel_rfl) i o h)
    have e15 := hout 15 (fun i o _ h => outB_spec (by kernel_rfl) i o h)
    have e16 := hout 16 (fun i o _ h => outB_spec (by kernel_rfl) i o h)
    have e17 := hout 17 (fun i o _ h => outB_spec (by kernel_rfl) i o h)
    have e18 := hout 18 (fun i o _ h => outB_spec (by kernel_rfl) i o h)
    have e19 := hout 19 (fun i o _ h => outB_spec (by kernel_rfl) i o h)
    simp only [Array.getD_eq_getD_getElem?, List.getElem?_toArray, List.getElem?_cons_zero, List.getElem?_cons_succ, Option.getD_some] at e0 e1 e2 e3 e4 e6 e7 e8 e9 e10 e11 e12 e13 e14 e15 e16 e17 e18 e19
    rw [e0, e1, e2, e3, e4, e6, e7, e8, e9, e10, e11, e12, e13, e14, e15, e16, e17, e18, e19] at hA
    clear e0 e1 e2 e3 e4 e6 e7 e8 e9 e10 e11 e12 e13 e14 e15 e16 e17 e18 e19 hout
    have hds2 : a.defers = [] := hdef
    have ea : a = ⟨a.tmps, a.defers⟩ := rfl
    rw [Array.getD_eq_getD_getElem?] at q32
    rw [Array.getD_eq_getD_getElem?] at q33
    rw [hA, hds2, q32, q33] at ea
    clear hA hds2 q32 q33 hdef
    generalize a.tmps[20]?.getD undef = y20 at ea
    generalize a.tmps[21]?.getD undef = y21 at ea
    generalize a.tmps[22]?.getD undef = y22 at ea
    generalize a.tmps[23]?.getD undef = y23 at ea
    generalize a.tmps[24]?.getD undef = y24 at ea
    generalize a.tmps[25]?.getD undef = y25 at ea
    generalize a.tmps[26]?.getD undef = y26 at ea
    generalize a.tmps[27]?.getD undef = y27 at ea
    generalize a.tmps[28]?.getD undef = y28 at ea
    generalize a.tmps[29]?.getD undef = y29 at ea
    generalize a.tmps[30]?.getD undef = y30 at ea
    generalize a.tmps[31]?.getD undef = y31 at ea
    generalize a.tmps[5]?.getD undef = y5 at ea
    clear hsz
    subst ea
    have bx : Ex wr w2 := Ex.trans (show Ex wr wr.drew from (Below.refl _ _).drew) hx
    refine wpOp_do rfl (by rfl) ?_
    have Z2 := LB.ext ZB.out bx
    have bw2 : Ex w w2 := Ex.trans bw bx
    refine wp_st45 _ _ (B + 1) Vn 0 p32 nilP rfl rfl rfl Z2 (fun w3 hd ho => ?_)
    have i3 := i32.st ho Z2
    have bw3 := ho.below w.heap.size (by rw [← HB.out]; omega) w bw2
    refine wpOp_do rfl (by rfl) ?_
    clear CN bx i32 ho Z2 bw2 hx ZB AB TKI DRI
    go_simp
    go_wp2_with (first | (with_reducible refine stop_load45 ?_) | (with_reducible refine stop_store45 ?_))
    exact bodyPost_ret (res_lv rfl _ _ (B + 1) rfl Vn p32 hd) rfl ⟨p32, rfl, l32, i3, bw3⟩
set_option maxHeartbeats 4000000 in
set_option maxRecDepth 100000 in
theorem with_no (v : Int) (p : Pt) (x : Int) (w : World) (hp : p.In w w.heap.size) (hno : rightB v p.l = true → hasB v p.l x = true) :
    Calls Try.prog 31 #[LV v p, .int .i64 x] w (LvPost 0 [] false w) := by
  have hxx : ∀ W : World, Ex w W → p.In W W.heap.size := fun W h => hp.ext h
  have R := Lib.hid (fun W h => right_any v p W (hxx W h))
  have H := Lib.hid (fun W h => (show Calls Try.prog 36 #[LV v p, .int .i64 x] W fun e w' => e = .returned (.bool (hasB v p.l x)) ∧ Below W.heap.size W w' from has_any v p x W (hxx W h)))
  have bw : Ex w ((w.alloc (.cells #[.int .u64 v, p.V] 45)).alloc (.cells #[.int .u64 0, .slice none 0 0] 45)) := ((Below.refl _ _).alloc (Nat.le_refl _) _).alloc (by simp) _
  have BW := Lib.hid bw
  have b0 : Hid (LB ((w.alloc (.cells #[.int .u64 v, p.V] 45)).alloc (.cells #[.int .u64 0, .slice none 0 0] 45)) w.heap.size v p) := by
    unfold LB; exact Lib.hid ((Bk.new rfl _ _).more _)
  have b1 := Lib.hid (show LB ((w.alloc (.cells #[.int .u64 v, p.V] 45)).alloc (.cells #[.int .u64 0, .slice none 0 0] 45)) (w.heap.size + 1) 0 nilP from Bk.new (by simp) _ _)
  rw [show (Calls Try.prog 31 #[LV v p, .int .i64 x] w) = (Calls Try.prog 31 #[.agg #[.int .u64 v, p.V], .int .i64 x] w) from rfl]
  have HNO := Lib.hid hno
  clear bw hxx hp hno
  go_enter Try.func31, Try.ntmps31
  go_wp2_with (first | (with_reducible refine stop_load45 ?_) | (with_reducible refine stop_store45 ?_))
  have bw := BW.out
  generalize hw1 : (w.alloc (.cells #[.int .u64 v, p.V] 45)).alloc (.cells #[.int .u64 0, .slice none 0 0] 45) = w1 at *
  obtain ⟨B, hB⟩ : ∃ B, B = w.heap.size := ⟨_, rfl⟩
  rw [← hB] at b0 b1 ⊢
  have HB := Lib.hid hB
  clear hw1 hB BW
  (with_reducible refine ⟨?_⟩); (with_reducible refine at_any ?_ ?_); (focus go_simp); refine fun K hK => wp_ld45 _ B v p rfl rfl b0.out (hK _ _ ?_)
  clear hK
  go_wp2_with (first | (with_reducible refine stop_load45 ?_) | (with_reducible refine stop_store45 ?_))
  refine (R.out _ bw).mono ?_
  rintro e w2 ⟨rfl, x2⟩
  cases hr : rightB v p.l
  · clear hr HNO
    go_wp2_with (first | (with_reducible refine stop_load45 ?_) | (with_reducible refine stop_store45 ?_))
    (with_reducible refine ⟨?_⟩); (with_reducible refine at_not ?_ ?_); (focus go_simp)
    go_wp2_with (first | (with_reducible refine stop_load45 ?_) | (with_reducible refine stop_store45 ?_))
    (with_reducible refine ⟨?_⟩); (with_reducible refine at_any ?_ ?_); (focus go_simp); refine fun K hK => wp_st45 _ _ (B + 1) 0 0 nilP nilP rfl rfl rfl (LB.ext b1.out x2) (fun w5 hd ho => hK _ _ ?_)
    have bw5 := ho.below w.heap.size (by rw [← HB.out]; omega) w (Ex.trans bw x2)
    clear hK ho
    go_wp2_with (first | (with_reducible refine stop_load45 ?_) | (with_reducible refine stop_store45 ?_))
    exact bodyPost_ret (res_lv rfl _ _ (B + 1) rfl 0 nilP hd) rfl ⟨nilP, rfl, rfl, nil_in _, bw5⟩
  · have bw2 := Ex.trans bw x2
    have hb : hasB v p.l x = true := HNO.out hr
    have H2 := H.out _ bw2
    rw [hb] at H2
    clear hr HNO hb H
    go_wp2_with (first | (with_reducible refine stop_load45 ?_) | (with_reducible refine stop_store45 ?_))
    (with_reducible refine ⟨?_⟩); (with_reducible refine at_any ?_ ?_); (focus go_simp); refine fun K hK => wp_ld45 _ B v p rfl rfl (LB.ext b0.out x2) (hK _ _ ?_)
    clear hK
    go_wp2_with (first | (with_reducible refine stop_load45 ?_) | (with_reducible refine stop_store45 ?_))
    refine H2.mono ?_
    rintro e w3 ⟨rfl, x3⟩
    have x23 := Ex.trans x2 x3
    clear x2 x3 bw2 H2 R
    go_wp2_with (first | (with_reducible refine stop_load45 ?_) | (with_reducible refine stop_store45 ?_))
    (with_reducible refine ⟨?_⟩); (with_reducible refine at_any ?_ ?_); (focus go_simp); refine fun K hK => wp_st45 _ _ (B + 1) 0 0 nilP nilP rfl rfl rfl (LB.ext b1.out x23) (fun w5 hd ho => hK _ _ ?_)
    have bw5 := ho.below w.heap.size (by rw [← HB.out]; omega) w (Ex.trans bw x23)
    clear hK ho
    go_wp2_with (first | (with_reducible refine stop_load45 ?_) | (with_reducible refine stop_store45 ?_))
    exact bodyPost_ret (res_lv rfl _ _ (B + 1) rfl 0 nilP hd) rfl ⟨nilP, rfl, rfl, nil_in _, bw5⟩
set_option maxHeartbeats 4000000 in
set_option maxRecDepth 100000 in
theorem less_no (v : Int) (p : Pt) (x : Int) (w : World) (hp : p.In w w.heap.size) (hno : hasB v p.l x = false) :
    Calls Try.prog 35 #[LV v p, .int .i64 x] w (LvPost 0 [] false w) := by
  have hxx : ∀ W : World, Ex w W → p.In W W.heap.size := fun W h => hp.ext h
  have R := Lib.hid (fun W h => right_any v p W (hxx W h))
  have H := Lib.hid (fun W h => (show Calls Try.prog 36 #[LV v p, .int .i64 x] W fun e w' => e = .returned (.bool (hasB v p.l x)) ∧ Below W.heap.size W w' from has_any v p x W (hxx W h)))
  have bw : Ex w ((w.alloc (.cells #[.int .u64 v, p.V] 45)).alloc (.cells #[.int .u64 0, .slice none 0 0] 45)) := ((Below.refl _ _).alloc (Nat.le_refl _) _).alloc (by simp) _
  have BW := Lib.hid bw
  have b0 : Hid (LB ((w.alloc (.cells #[.int .u64 v, p.V] 45)).alloc (.cells #[.int .u64 0, .slice none 0 0] 45)) w.heap.size v p) := by
    unfold LB; exact Lib.hid ((Bk.new rfl _ _).more _)
  have b1 := Lib.hid (show LB ((w.alloc (.cells #[.int .u64 v, p.V] 45)).alloc (.cells #[.int .u64 0, .slice none 0 0] 45)) (w.heap.size + 1) 0 nilP from Bk.new (by simp) _ _)
  rw [show (Calls Try.prog 35 #[LV v p, .int .i64 x] w) = (Calls Try.prog 35 #[.agg #[.int .u64 v, p.V], .int .i64 x] w) from rfl]
  have HNO := Lib.hid hno
  clear bw hxx hp hno
  go_enter Try.func35, Try.ntmps35
  go_wp2_with (first | (with_reducible refine stop_load45 ?_) | (with_reducible refine stop_store45 ?_))
  have bw := BW.out
  generalize hw1 : (w.alloc (.cells #[.int .u64 v, p.V] 45)).alloc (.cells #[.int .u64 0, .slice none 0 0] 45) = w1 at *
  obtain ⟨B, hB⟩ : ∃ B, B = w.heap.size := ⟨_, rfl⟩
  rw [← hB] at b0 b1 ⊢
  have HB := Lib.hid hB
  clear hw1 hB BW
  (with_reducible refine ⟨?_⟩); (with_reducible refine at_any ?_ ?_); (focus go_simp); refine fun K hK => wp_ld45 _ B v p rfl rfl b0.out (hK _ _ ?_)
  clear hK
  go_wp2_with (first | (with_reducible refine stop_load45 ?_) | (with_reducible refine stop_store45 ?_))
  refine (H.out _ bw).mono ?_
  rw [HNO.out]
  rintro e w2 ⟨rfl, x2⟩
  clear HNO R
  go_wp2_with (first | (with_reducible refine stop_load45 ?_) | (with_reducible refine stop_store45 ?_))
  (with_reducible refine ⟨?_⟩); (with_reducible refine at_any ?_ ?_); (focus go_simp); refine fun K hK => wp_st45 _ _ (B + 1) 0 0 nilP nilP rfl rfl rfl (LB.ext b1.out x2) (fun w5 hd ho => hK _ _ ?_)
  have bw5 := ho.below w.heap.size (by rw [← HB.out]; omega) w (Ex.trans bw x2)
  clear hK ho
  go_wp2_with (first | (with_reducible refine stop_load45 ?_) | (with_reducible refine stop_store45 ?_))
  exact bodyPost_ret (res_lv rfl _ _ (B + 1) rfl 0 nilP hd) rfl ⟨nilP, rfl, rfl, nil_in _, bw5⟩
def lessV (v : Int) (l : List Int) (x : Int) : Int := if hasB v l x = true then nextV v (delL x l) else 0
def lessL (v : Int) (l : List Int) (x : Int) : List Int := if hasB v l x = true then nextL v (delL x l) else []
def lessB (v : Int) (l : List Int) (x : Int) : Bool := hasB v l x && rightB (v + 1) (delL x l)
theorem with_any (v : Int) (p : Pt) (x : Int) (w : World) (hp : p.In w w.heap.size) :
    Calls Try.prog 31 #[LV v p, .int .i64 x] w (LvPost (withV v p.l x) (withL v p.l x) (withB v p.l x) w) := by
  cases h : withOk v p.l x
  · have := with_no v p x w hp (fun hr => by
      unfold withOk at h; rw [hr] at h; unfold hasB; rw [hr]; simpa using h)
    unfold withV withL withB; rw [h]; exact this
  · unfold withOk at h
    rw [Bool.and_eq_true] at h
    have := with_go v p x w hp h.1 (by simpa using h.2)
    unfold withV withL withB withOk; rw [h.1, h.2]; exact this
theorem less_any' (v : Int) (p : Pt) (x : Int) (w : World) (hp : p.In w w.heap.size) :
    Calls Try.prog 35 #[LV v p, .int .i64 x] w (LvPost (lessV v p.l x) (lessL v p.l x) (lessB v p.l x) w) := by
  cases h : hasB v p.l x
  · have := less_no v p x w hp h
    unfold lessV lessL lessB; rw [h]; exact this
  · have h2 := h
    unfold hasB at h2
    rw [Bool.and_eq_true] at h2
    have := less_go v p x w hp h2.1 h2.2
    unfold lessV lessL lessB; rw [h]; exact this
end Go.Proofs.Ytgoiidpcdifojaa
