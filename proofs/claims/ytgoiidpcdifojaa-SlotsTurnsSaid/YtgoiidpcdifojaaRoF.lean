/- roster.With, Without -/
import Derived.Test.YtgoiidpcdifojaaRoE
namespace Go.Proofs.Ytgoiidpcdifojaa
open Go.RowKit
theorem ret_i64 {a b : Int} (h : a = b) : Value.int .i64 a = .int .i64 b := by rw [h]
theorem one_in (w : World) (x : Int) : (Pt.mk (some ⟨w.heap.size, 0, none⟩) 1 [x]).In (w.alloc (.cells #[.int .i64 x] 3)) (w.alloc (.cells #[.int .i64 x] 3)).heap.size :=
  ⟨Nat.le_refl _, (fun h => by cases h), fun _ => ⟨w.heap.size, 0, rfl, by simp, fun i hi => by
    obtain rfl : i = 0 := by simp at hi; exact hi
    rw [(Bk.new (w := w) rfl 3 #[.int .i64 x]).cell]; rfl⟩⟩
theorem take_in {w : World} {B a o cap : Nat} {l : List Int} {i : Nat} (h : (Pt.mk (some ⟨a, o, none⟩) cap l).In w B) : (Pt.mk (some ⟨a, o, none⟩) cap (l.take i)).In w B :=
  ⟨Nat.le_trans (by simp; omega) h.cap, (fun h => by cases h), fun h0 => by
    simp only [List.length_take] at h0
    obtain ⟨a', o', e, hB, hc⟩ := h.read (by show 0 < l.length; omega)
    refine ⟨a', o', e, hB, fun j hj => ?_⟩
    simp only [List.length_take] at hj
    rw [hc j (by show j < l.length; omega)]
    simp only [List.getD, List.getElem?_take]
    rw [if_pos (by omega)]⟩
theorem drop_in {w : World} {B a o cap : Nat} {l : List Int} {i : Nat} (ad : Option Addr) (had : i < l.length → ad = some ⟨a, o + i, none⟩) (hnil : ad ≠ none) (h : (Pt.mk (some ⟨a, o, none⟩) cap l).In w B) (hi : i ≤ l.length) : (Pt.mk ad (cap - i) (l.drop i)).In w B :=
  ⟨by have := h.cap; simp at this ⊢; omega, (fun h => absurd h hnil), fun h0 => by
    simp only [List.length_drop] at h0
    obtain ⟨a', o', e, hB, hc⟩ := h.read (by show 0 < l.length; omega)
    injection e with e; injection e with e1 e2; subst e1 e2
    refine ⟨a, o + i, had (by omega), hB, fun j hj => ?_⟩
    simp only [List.length_drop] at hj
    rw [Nat.add_assoc, hc (i + j) (by show i + j < l.length; omega)]
    simp [List.getD]⟩
def insL (x : Int) (l : List Int) : List Int := l.filter (fun y => decide (y < x)) ++ ([x] ++ l.filter (fun y => decide (x ≤ y)))
def delL (x : Int) (l : List Int) : List Int := l.filter (fun y => decide (y < x)) ++ (l.filter (fun y => decide (x ≤ y))).drop 1
theorem split_at {l : List Int} {x : Int} {i : Nat} (hi : i ≤ l.length) (lo : ∀ j, j < i → l.getD j 0 < x) (hh : ∀ j, i ≤ j → j < l.length → x ≤ l.getD j 0) : l.take i = l.filter (fun y => decide (y < x)) ∧ l.drop i = l.filter (fun y => decide (x ≤ y)) := by
  have t1 : ∀ y ∈ l.take i, y < x := fun y hy => by
    obtain ⟨j, hj, e⟩ := List.getElem_of_mem hy
    rw [List.length_take] at hj
    have := lo j (by omega)
    rw [← e]; simpa [List.getD, show j < l.length by omega] using this
  have t2 : ∀ y ∈ l.drop i, x ≤ y := fun y hy => by
    obtain ⟨j, hj, e⟩ := List.getElem_of_mem hy
    simp at hj
    have := hh (i + j) (by omega) (by omega)
    rw [← e]; simpa [List.getD, show i + j < l.length by omega] using this
  constructor
  · conv => rhs; rw [← List.take_append_drop i l]
    rw [List.filter_append, List.filter_eq_self.2 (fun y hy => by simpa using t1 y hy), List.filter_eq_nil_iff.2 (fun y hy => by simpa using t2 y hy), List.append_nil]
  · conv => rhs; rw [← List.take_append_drop i l]
    rw [List.filter_append, List.filter_eq_nil_iff.2 (fun y hy => by simpa using t1 y hy), List.filter_eq_self.2 (fun y hy => by simpa using t2 y hy), List.nil_append]
theorem right_len {v : Int} {l : List Int} (h : rightB v l = true) : 1 ≤ v ∧ v ≤ 1099511627776 ∧ 1 ≤ l.length ∧ l.length ≤ 8 ∧ goodL l := by
  unfold rightB at h; simp at h
  refine ⟨h.1, h.2.1, ?_, h.2.2.2.1, h.2.2.2.2⟩
  have := h.2.2.1
  cases l with
  | nil => simp at this
  | cons a r => simp
theorem good_sorted {l : List Int} (h : goodL l) : ∀ d i, i + d < l.length → l.getD i 0 ≤ l.getD (i + d) 0 := by
  intro d
  induction d with
  | zero => intro i _; exact Int.le_refl _
  | succ d ih =>
    intro i hi
    have h1 := ih i (by omega)
    have h2 := (h (i + (d + 1)) hi).2.2 (by omega)
    rw [show i + (d + 1) - 1 = i + d by omega] at h2
    omega
def withOk (v : Int) (l : List Int) (x : Int) : Bool := rightB v l && !decide (x ∈ l)
def withV (v : Int) (l : List Int) (x : Int) : Int := if withOk v l x = true then nextV v (insL x l) else 0
def withL (v : Int) (l : List Int) (x : Int) : List Int := if withOk v l x = true then nextL v (insL x l) else []
def withB (v : Int) (l : List Int) (x : Int) : Bool := withOk v l x && rightB (v + 1) (insL x l)
set_option maxHeartbeats 4000000 in
set_option maxRecDepth 100000 in
theorem with_go (v : Int) (p : Pt) (x : Int) (w : World) (hp : p.In w w.heap.size) (hr : rightB v p.l = true) (hx : decide (x ∈ p.l) = false) :
    Calls Try.prog 31 #[LV v p, .int .i64 x] w (LvPost (nextV v (insL x p.l)) (nextL v (insL x p.l)) (rightB (v + 1) (insL x p.l)) w) := by
  have hxx : ∀ W : World, Ex w W → p.In W W.heap.size := fun W h => hp.ext h
  have R := Lib.hid (fun W h => (show Calls Try.prog 49 #[LV v p] W fun e w' => e = .returned (.bool true) ∧ Below W.heap.size W w' by rw [← hr]; exact right_any v p W (hxx W h)))
  have H := Lib.hid (fun W h => (show Calls Try.prog 36 #[LV v p, .int .i64 x] W fun e w' => e = .returned (.bool false) ∧ Below W.heap.size W w' by
    have := has_any v p x W (hxx W h); unfold hasB at this; rwa [hr, hx] at this))
  obtain ⟨v1, v2, n1, n8, good⟩ := right_len hr
  have S := Lib.hid (fun W h => bsearch_any p x W (hxx W h) n8 (fun i j hij hj => by
    have := good_sorted good (j - i) i (by omega); rwa [show i + (j - i) = j by omega] at this))
  have CNX := Lib.hid (fun (i : Nat) (h1 : i ≤ p.l.length) (h2 : ∀ j, j < i → p.l.getD j 0 < x) (h3 : ∀ j, i ≤ j → j < p.l.length → x ≤ p.l.getD j 0) (ps : List Pt) (g : Nat) (W : World) (hl : ps.map (·.l) = [p.l.take i, [x], p.l.drop i]) (hb : Bk W g 43 (ps.map (·.V)).toArray) (hi : ∀ q ∈ ps, q.In W W.heap.size) =>
    (show Calls Try.prog 52 #[LV v p, .slice (some ⟨g, 0, none⟩) 3 3] W (LvPost (nextV v (insL x p.l)) (nextL v (insL x p.l)) (rightB (v + 1) (insL x p.l)) W) by
      have e3 : ps.length = 3 := by have := congrArg List.length hl; simpa using this
      obtain ⟨e1, e2⟩ := split_at h1 h2 h3
      have ei : p.l.take i ++ ([x] ++ p.l.drop i) = insL x p.l := by unfold insL; rw [e1, e2]
      have ef : flatL ps ps.length = insL x p.l := by rw [← ei]; unfold flatL; rw [List.take_length, hl]; simp
      have := next_any v (by omega) v2 p.V ps g 3 W hb hi (by rw [ef, ← ei]; simp; omega) (by omega)
      rw [ef, e3] at this
      exact this))
  generalize nextV v (insL x p.l) = Vn at *
  generalize nextL v (insL x p.l) = Ln at *
  generalize rightB (v + 1) (insL x p.l) = bq at *
  obtain ⟨a9, o9, had, halt, _⟩ := hp.read (by omega)
  obtain ⟨ad, cap, l⟩ := p
  simp only at had
  subst had
  simp only at *
  have hcap := hp.cap
  simp only at hcap
  have HCAP := Lib.hid hcap
  obtain ⟨n, hn⟩ : ∃ n, n = l.length := ⟨_, rfl⟩
  have HN := Lib.hid hn
  obtain ⟨p, hpp⟩ : ∃ p : Pt, p = ⟨some ⟨a9, o9, none⟩, cap, l⟩ := ⟨_, rfl⟩
  have hpv : p.V = .slice (some ⟨a9, o9, none⟩) n cap := by rw [hpp, hn]; rfl
  rw [← hpp] at R H S CNX hp hxx ⊢
  have hLV : LV v p = .agg #[.int .u64 v, .slice (some ⟨a9, o9, none⟩) n cap] := by unfold LV; rw [hpv]
  have HLV := Lib.hid hLV
  have HP := Lib.hid hpp
  have bw : Ex w ((w.alloc (.cells #[.int .u64 v, .slice (some ⟨a9, o9, none⟩) n cap] 45)).alloc (.cells #[.int .u64 0, .slice none 0 0] 45)) := ((Below.refl _ _).alloc (Nat.le_refl _) _).alloc (by simp) _
  have BW := Lib.hid bw
  have b0 : Hid (LB ((w.alloc (.cells #[.int .u64 v, .slice (some ⟨a9, o9, none⟩) n cap] 45)).alloc (.cells #[.int .u64 0, .slice none 0 0] 45)) w.heap.size v p) := by
    unfold LB; rw [hpv]; exact Lib.hid ((Bk.new rfl _ _).more _)
  have b1 := Lib.hid (show LB ((w.alloc (.cells #[.int .u64 v, .slice (some ⟨a9, o9, none⟩) n cap] 45)).alloc (.cells #[.int .u64 0, .slice none 0 0] 45)) (w.heap.size + 1) 0 nilP from Bk.new (by simp) _ _)
  have PIN := Lib.hid hxx
  rw [show (Calls Try.prog 31 #[LV v p, .int .i64 x] w) = (Calls Try.prog 31 #[.agg #[.int .u64 v, .slice (some ⟨a9, o9, none⟩) n cap], .int .i64 x] w) by rw [hLV]]
  clear bw hxx hp hpv hLV hpp hn hr hx good hcap
  go_enter Try.func31, Try.ntmps31
  go_wp2_with (first | (with_reducible refine stop_load45 ?_) | (with_reducible refine stop_store45 ?_))
  have bw := BW.out
  generalize hw1 : (w.alloc (.cells #[.int .u64 v, .slice (some ⟨a9, o9, none⟩) n cap] 45)).alloc (.cells #[.int .u64 0, .slice none 0 0] 45) = w1 at *
  obtain ⟨B, hB⟩ : ∃ B, B = w.heap.size := ⟨_, rfl⟩
  rw [← hB] at b0 b1 ⊢
  have HB := Lib.hid hB
  clear hw1 hB BW
  (with_reducible refine ⟨?_⟩); (with_reducible refine at_any ?_ ?_); (focus go_simp); refine fun K hK => wp_ld45 _ B v p rfl rfl b0.out (hK _ _ ?_)
  clear hK
  go_wp2_with (first | (with_reducible refine stop_load45 ?_) | (with_reducible refine stop_store45 ?_))
  refine (R.out _ bw).mono ?_
  rintro e w2 ⟨rfl, x2⟩
  have A2 := Lib.hid (LB.ext b0.out x2)
  have Z2 := Lib.hid (LB.ext b1.out x2)
  have bw2 := Ex.trans bw x2
  clear b0 b1 bw x2 R
  go_wp2_with (first | (with_reducible refine stop_load45 ?_) | (with_reducible refine stop_store45 ?_))
  (with_reducible refine ⟨?_⟩); (with_reducible refine at_any ?_ ?_); (focus go_simp); refine fun K hK => wp_ld45 _ B v p rfl rfl A2.out (hK _ _ ?_)
  clear hK
  go_wp2_with (first | (with_reducible refine stop_load45 ?_) | (with_reducible refine stop_store45 ?_))
  refine (H.out _ bw2).mono ?_
  rintro e w3 ⟨rfl, x3⟩
  have AB := Lib.hid (LB.ext A2.out x3)
  have ZB := Lib.hid (LB.ext Z2.out x3)
  have bw := Ex.trans bw2 x3
  clear A2 Z2 bw2 x3 H
  have c1 : w3.cell? ⟨B, 1, none⟩ = some (.slice (some ⟨a9, o9, none⟩) n cap) := by
    have := Bk.cell AB.out 1; rw [HP.out] at this; rw [this, HN.out]; rfl
  have CB := Lib.hid c1
  have S2 := S.out _ bw
  rw [show p.V = .slice (some ⟨a9, o9, none⟩) n cap by rw [HP.out, HN.out]; rfl] at S2
  clear S
  go_wp2_with (first | (with_reducible refine stop_load45 ?_) | (with_reducible refine stop_store45 ?_))
  refine S2.mono ?_
  rintro e w4 ⟨i, b, rfl, hi, lo, hh, rfl⟩
  go_wp2_with (first | (with_reducible refine stop_load45 ?_) | (with_reducible refine stop_store45 ?_))
  have HI := Lib.hid hi
  have CN := Lib.hid (CNX.out i hi lo hh)
  generalize w3 = wr at *
  have I0 := Lib.hid (show (0 : Int) ≤ (i : Int) by omega)
  have I1 := Lib.hid (show (i : Int) ≤ (cap : Int) by have := HCAP.out; omega)
  have I2 := Lib.hid (show (i : Int) ≤ (n : Int) by have := HN.out; omega)
  have I3 := Lib.hid (show (n : Int) ≤ (cap : Int) by have := HCAP.out; have := HN.out; omega)
  have HDL := Lib.hid (show (l.drop i).length = n - i by have := HN.out; simp; omega)
  have HTK := Lib.hid (show (l.take i).length = i by simp; omega)
  have HBw := Lib.hid (Bk.lt AB.out)
  have TKI := Lib.hid (fun (W : World) (h : Ex wr W) => take_in (i := i) (show (Pt.mk (some ⟨a9, o9, none⟩) cap l).In W W.heap.size by rw [← HP.out]; exact PIN.out W (Ex.trans bw h)))
  have DRI := Lib.hid (fun (W : World) (h : Ex wr W) (ad : Option Addr) (had : i < l.length → ad = some ⟨a9, o9 + i, none⟩) (hne : ad ≠ none) => drop_in (i := i) ad had hne (show (Pt.mk (some ⟨a9, o9, none⟩) cap l).In W W.heap.size by rw [← HP.out]; exact PIN.out W (Ex.trans bw h)) HI.out)
  clear CNX lo hh hi c1 n1 n8 v1 v2 PIN S2
  obtain ⟨T, hT⟩ : ∃ T : List Ar, T = [.is (LV v p), .is (.pointer (some ⟨B, 1, none⟩)), .is (.slice (some ⟨a9, o9, none⟩) n cap), .is (.int .i64 i), .pt (l.take i), .is (.int .i64 x), .pt ([x]), .is (.pointer (some ⟨B, 1, none⟩)), .is (.slice (some ⟨a9, o9, none⟩) n cap), .is (.int .i64 i), .pt (l.drop i), .rows [l.take i, [x], l.drop i], .tup (Vn) (Ln) (bq), .lv (Vn) (Ln), .is (.bool bq)] := ⟨_, rfl⟩
  refine wp_region_flow2 15 (arPhi T) (by kernel_rfl) rfl (by kernel_rfl) (by kernel_rfl) (by kernel_rfl) (by kernel_rfl) (arPhi_stable T) (fitB_spec (by kernel_rfl)) ?_ ?_
  · intro i o hi ho
    have hi' : i = 0 ∨ i = 1 ∨ i = 2 ∨ i = 3 ∨ i = 4 ∨ i = 5 ∨ i = 6 ∨ i = 7 ∨ i = 8 ∨ i = 9 ∨ i = 10 ∨ i = 11 ∨ i = 12 ∨ i = 13 ∨ i = 14 := by omega
    clear hi
    rcases hi' with rfl | rfl | rfl | rfl | rfl | rfl | rfl | rfl | rfl | rfl | rfl | rfl | rfl | rfl | rfl
    all_goals (simp only [List.getElem?_toArray, List.getElem?_cons_zero, List.getElem?_cons_succ, Option.some.injEq] at ho; subst ho; intro a w2 hx hsz hdep hout)
    · rw [if_pos (by rfl)]
      intro K hK
      have q2 := hout 2 (outB_spec (by kernel_rfl))
      exact wp_ld45 _ B v p rfl q2 (LB.ext AB.out (Ex.trans (show Ex wr wr.drew from (Below.refl _ _).drew) hx)) (hK _ _ (Ex.refl _) (by rw [hT]; rfl))
    · rw [if_pos (by rfl)]
      intro K hK
      have q2 := hout 2 (outB_spec (by kernel_rfl))
      clear hsz hdep hout
      go_simp
      exact hK _ _ (Ex.refl _) (by rw [hT]; rfl)
    · rw [if_pos (by rfl)]
      intro K hK
      obtain ⟨v25, h25, k25⟩ := hdep ⟨1, .data⟩ (by simp) rfl _ rfl
      have q25 := k25 _ rfl
      clear k25
      rw [hT] at h25
      obtain rfl : v25 = .pointer (some ⟨B, 1, none⟩) := h25
      have f1 : w2.cell? ⟨B, 1, none⟩ = some (.slice (some ⟨a9, o9, none⟩) n cap) := (Below.cell (p := ⟨B, 1, none⟩) (Ex.trans (show Ex wr wr.drew from (Below.refl _ _).drew) hx) HBw.out).trans CB.out
      clear hsz hdep hout
      go_simp
      exact hK _ _ (Ex.refl _) (by rw [hT]; rfl)
    · rw [if_pos (by rfl)]
      intro K hK
      have q6 := hout 6 (outB_spec (by kernel_rfl))
      exact wp_mv _ rfl (hK _ _ (Ex.refl _) (by rw [hT]; exact q6))
    · rw [if_pos (by rfl)]
      intro K hK
      obtain ⟨v26, h26, k26⟩ := hdep ⟨2, .data⟩ (by simp) rfl _ rfl
      have q26 := k26 _ rfl
      clear k26
      rw [hT] at h26
      obtain rfl : v26 = .slice (some ⟨a9, o9, none⟩) n cap := h26
      obtain ⟨v27, h27, k27⟩ := hdep ⟨3, .data⟩ (by simp) rfl _ rfl
      have q27 := k27 _ rfl
      clear k27
      rw [hT] at h27
      obtain rfl : v27 = .int .i64 i := h27
      rw [Array.getD_eq_getD_getElem?] at q26
      rw [Array.getD_eq_getD_getElem?] at q27
      clear hsz hdep hout
      have i0 := I0.out
      have i1 := I1.out
      go_simp
      exact hK _ _ (Ex.refl _) (by rw [hT]; exact ⟨⟨some ⟨a9, o9, none⟩, cap, l.take i⟩, by unfold Pt.V; rw [HTK.out], rfl, TKI.out _ (Ex.trans (show Ex wr wr.drew from (Below.refl _ _).drew) hx)⟩)
    · rw [if_pos (by rfl)]
      intro K hK
      have q1 := hout 1 (outB_spec (by kernel_rfl))
      exact wp_mv _ rfl (hK _ _ (Ex.refl _) (by rw [hT]; exact q1))
    · rw [if_pos (by rfl)]
      intro K hK
      obtain ⟨v29, h29, k29⟩ := hdep ⟨5, .data⟩ (by simp) rfl _ rfl
      have q29 := k29 _ rfl
      clear k29
      rw [hT] at h29
      obtain rfl : v29 = .int .i64 x := h29
      rw [Array.getD_eq_getD_getElem?] at q29
      clear hsz hdep hout
      go_simp
      exact hK _ _ ((Below.refl _ _).alloc (Nat.le_refl _) _) (by rw [hT]; exact ⟨⟨some ⟨w2.heap.size, 0, none⟩, 1, [x]⟩, rfl, rfl, one_in w2 x⟩)
    · rw [if_pos (by rfl)]
      intro K hK
      have q2 := hout 2 (outB_spec (by kernel_rfl))
      clear hsz hdep hout
      go_simp
      exact hK _ _ (Ex.refl _) (by rw [hT]; rfl)
    · rw [if_pos (by rfl)]
      intro K hK
      obtain ⟨v31, h31, k31⟩ := hdep ⟨7, .data⟩ (by simp) rfl _ rfl
      have q31 := k31 _ rfl
      clear k31
      rw [hT] at h31
      obtain rfl : v31 = .pointer (some ⟨B, 1, none⟩) := h31
      have f1 : w2.cell? ⟨B, 1, none⟩ = some (.slice (some ⟨a9, o9, none⟩) n cap) := (Below.cell (p := ⟨B, 1, none⟩) (Ex.trans (show Ex wr wr.drew from (Below.refl _ _).drew) hx) HBw.out).trans CB.out
      clear hsz hdep hout
      go_simp
      exact hK _ _ (Ex.refl _) (by rw [hT]; rfl)
    · rw [if_pos (by rfl)]
      intro K hK
      have q6 := hout 6 (outB_spec (by kernel_rfl))
      exact wp_mv _ rfl (hK _ _ (Ex.refl _) (by rw [hT]; exact q6))
    · rw [if_pos (by rfl)]
      intro K hK
      obtain ⟨v32, h32, k32⟩ := hdep ⟨8, .data⟩ (by simp) rfl _ rfl
      have q32 := k32 _ rfl
      clear k32
      rw [hT] at h32
      obtain rfl : v32 = .slice (some ⟨a9, o9, none⟩) n cap := h32
      obtain ⟨v33, h33, k33⟩ := hdep ⟨9, .data⟩ (by simp) rfl _ rfl
      have q33 := k33 _ rfl
      clear k33
      rw [hT] at h33
      obtain rfl : v33 = .int .i64 i := h33
      rw [Array.getD_eq_getD_getElem?] at q32
      rw [Array.getD_eq_getD_getElem?] at q33
      clear hsz hdep hout
      have i0 := I0.out
      have i1 := I1.out
      have i2 := I2.out
      have i3 := I3.out
      go_simp
      exact hK _ _ (Ex.refl _) (by rw [hT]; exact ⟨⟨if cap = i then some ⟨a9, o9, none⟩ else some ⟨a9, o9 + i, none⟩, cap - i, l.drop i⟩, by unfold Pt.V; rw [HDL.out], rfl, DRI.out _ (Ex.trans (show Ex wr wr.drew from (Below.refl _ _).drew) hx) _ (fun h => if_neg (by have := HCAP.out; omega)) (by split <;> simp)⟩)
    · rw [if_pos (by rfl)]
      intro K hK
      obtain ⟨v28, h28, k28⟩ := hdep ⟨4, .data⟩ (by simp) rfl _ rfl
      have q28 := k28 _ rfl
      clear k28
      rw [hT] at h28
      obtain ⟨p28, rfl, l28, i28⟩ := h28
      obtain ⟨v30, h30, k30⟩ := hdep ⟨6, .data⟩ (by simp) rfl _ rfl
      have q30 := k30 _ rfl
      clear k30
      rw [hT] at h30
      obtain ⟨p30, rfl, l30, i30⟩ := h30
      obtain ⟨v34, h34, k34⟩ := hdep ⟨10, .data⟩ (by simp) rfl _ rfl
      have q34 := k34 _ rfl
      clear k34
      rw [hT] at h34
      obtain ⟨p34, rfl, l34, i34⟩ := h34
      rw [Array.getD_eq_getD_getElem?] at q28
      rw [Array.getD_eq_getD_getElem?] at q30
      rw [Array.getD_eq_getD_getElem?] at q34
      unfold Pt.V at q28
      unfold Pt.V at q30
      unfold Pt.V at q34
      replace l28 := Lib.hid l28
      replace l30 := Lib.hid l30
      replace l34 := Lib.hid l34
      clear hsz hdep hout
      go_simp
      exact hK _ _ ((Below.refl _ _).alloc (Nat.le_refl _) _) (by rw [hT]; exact ⟨w2.heap.size, [p28, p30, p34], rfl, by simp [l28.out, l30.out, l34.out], fun p' hp' => by simp at hp'; rcases hp' with rfl | rfl | rfl <;> exact Pt.In.ext (by assumption) ((Below.refl _ _).alloc (Nat.le_refl _) _), Bk.new rfl _ _⟩)
    · rw [if_pos (by rfl)]
      intro K hK
      obtain ⟨v24, h24, k24⟩ := hdep ⟨0, .data⟩ (by simp) rfl _ rfl
      have q24 := k24 _ rfl
      clear k24
      rw [hT] at h24
      obtain rfl : v24 = LV v p := h24
      obtain ⟨v35, h35, k35⟩ := hdep ⟨11, .data⟩ (by simp) rfl _ rfl
      have q35 := k35 _ rfl
      clear k35
      rw [hT] at h35
      obtain ⟨g35, P35, rfl, l35, i35, b35⟩ := h35
      clear hsz hdep hout
      go_simp
      have cn := CN.out P35 g35 w2 l35 b35 i35
      refine cn.mono ?_
      rintro e w3 ⟨q, rfl, lq, iq, xq⟩
      exact hK _ _ xq (by rw [hT]; exact ⟨q, rfl, lq, iq⟩)
    · rw [if_pos (by rfl)]
      intro K hK
      obtain ⟨v36, h36, k36⟩ := hdep ⟨12, .data⟩ (by simp) rfl _ rfl
      have q36 := k36 _ rfl
      clear k36
      rw [hT] at h36
      obtain ⟨p36, rfl, l36, i36⟩ := h36
      rw [Array.getD_eq_getD_getElem?] at q36
      clear hsz hdep hout
      unfold LV at q36
      go_simp
      exact hK _ _ (Ex.refl _) (by rw [hT]; exact ⟨p36, rfl, l36, i36⟩)
    · rw [if_pos (by rfl)]
      intro K hK
      obtain ⟨v36, h36, k36⟩ := hdep ⟨12, .data⟩ (by simp) rfl _ rfl
      have q36 := k36 _ rfl
      clear k36
      rw [hT] at h36
      obtain ⟨p36, rfl, l36, i36⟩ := h36
      rw [Array.getD_eq_getD_getElem?] at q36
      clear hsz hdep hout
      go_simp
      exact hK _ _ (Ex.refl _) (by rw [hT]; rfl)
  · intro a w2 hx hdef hsz hdone hout
    obtain ⟨v37, h37, k37⟩ := hdone 13 _ (by omega) rfl
    have q37 := k37 _ rfl
    clear k37
    rw [hT] at h37
    obtain ⟨p37, rfl, l37, i37⟩ := h37
    obtain ⟨v38, h38, k38⟩ := hdone 14 _ (by omega) rfl
    have q38 := k38 _ rfl
    clear k38
    rw [hT] at h38
    obtain rfl : v38 = .bool bq := h38
    clear hdone hT
    have hA := arr_range a.tmps 39 hsz
    change a.tmps = #[a.tmps[0]?.getD undef, a.tmps[1]?.getD undef, a.tmps[2]?.getD undef, a.tmps[3]?.getD undef, a.tmps[4]?.getD undef, a.tmps[5]?.getD undef, a.tmps[6]?.getD undef, a.tmps[7]?.getD undef, a.tmps[8]?.getD undef, a.tmps[9]?.getD undef, a.tmps[10]?.getD undef, a.tmps[11]?.getD undef, a.tmps[12]?.getD undef, a.tmps[13]?.getD undef, a.tmps[14]?.getD undef, a.tmps[15]?.getD undef, a.tmps[16]?.getD undef, a.tmps[17]?.getD undef, a.tmps[18]?.getD undef, a.tmps[19]?.getD undef, a.tmps[20]?.getD undef, a.tmps[21]?.getD undef, a.tmps[22]?.getD undef, a.tmps[23]?.getD undef, a.tmps[24]?.getD undef, a.tmps[25]?.getD undef, a.tmps[26]?.getD undef, a.tmps[27]?.getD undef, a.tmps[28]?.getD undef, a.tmps[29]?.getD undef, a.tmps[30]?.getD undef, a.tmps[31]?.getD undef, a.tmps[32]?.getD undef, a.tmps[33]?.getD undef, a.tmps[34]?.getD undef, a.tmps[35]?.getD undef, a.tmps[36]?.getD undef, a.tmps[37]?.getD undef, a.tmps[38]?.getD undef] at hA
    have e0 := hout 0 (fun i o _ h => outB_spec (by kernel_rfl) i o h)
    have e1 := hout 1 (fun i o _ h => outB_spec (by kernel_rfl) i o h)
    have e2 := hout 2 (fun i o _ h => outB_spec (by kernel_rfl) i o h)
    have e3 := hout 3 (fun i o _ h => outB_spec (by kernel_rfl) i o h)
    have e4 := hout 4 (fun i o _ h => outB_spec (by kernel_rfl) i o h)
    have e6 := hout 6 (fun i o _ h => outB_spec (by kernel_rfl) i o h)
    have e7 := hout 7 (fun i o _ h => outB_spec (by kernel_rfl) i o h)
    have e8 := hout 8 (fun i o _ h => outB_spec (by kernel_rfl) i o h)
    have e9 := hout 9 (fun i o _ h => outB_spec (by kernel_rfl) i o h)
    have e10 := hout 10 (fun i o _ h => outB_spec (by kernel_rfl) i o h)
    have e11 := hout 11 (fun i o _ h => outB_spec (by kernel_rfl) i o h)
    have e12 := hout 12 (fun i o _ h => outB_spec (by kernel_rfl) i o h)
    have e13 := hout 13 (fun i o _ h => outB_spec (by kernel_rfl) i o h)
    have e14 := hout 14 (fun i o _ h => outB_spec (by kernel_rfl) i o h)
    have e15 := hout 15 (fun i o _ h => outB_spec (by kernel_rfl) i o h)
    have e16 := hout 16 (fun i o _ h => outB_spec (by kernel_rfl) i o h)
    have e17 := hout 17 (fun i o _ h => outB_spec (by kernel_rfl) i o h)
    have e18 := hout 18 (fun i o _ h => outB_spec (by kernel_rfl) i o h)
    have e19 := hout 19 (fun i o _ h => outB_spec (by kernel_rfl) i o h)
    have e20 := hout 20 (fun i o _ h => outB_spec (by kernel_rfl) i o h)
    have e21 := hout 21 (fun i o _ h => outB_spec (by kernel_rfl) i o h)
    have e22 := hout 22 (fun i o _ h => outB_spec (by kernel_rfl) i o h)
    have e23 := hout 23 (fun i o _ h => outB_spec (by kernel_rfl) i o h)
    simp only [Array.getD_eq_getD_getElem?, List.getElem?_toArray, List.getElem?_cons_zero, List.getElem?_cons_succ, Option.getD_some] at e0 e1 e2 e3 e4 e6 e7 e8 e9 e10 e11 e12 e13 e14 e15 e16 e17 e18 e19 e20 e21 e22 e23
    rw [e0, e1, e2, e3, e4, e6, e7, e8, e9, e10, e11, e12, e13, e14, e15, e16, e17, e18, e19, e20, e21, e22, e23] at hA
    clear e0 e1 e2 e3 e4 e6 e7 e8 e9 e10 e11 e12 e13 e14 e15 e16 e17 e18 e19 e20 e21 e22 e23 hout
    have hds2 : a.defers = [] := hdef
    have ea : a = ⟨a.tmps, a.defers⟩ := rfl
    rw [Array.getD_eq_getD_getElem?] at q37
    rw [Array.getD_eq_getD_getElem?] at q38
    rw [hA, hds2, q37, q38] at ea
    clear hA hds2 q37 q38 hdef
    generalize a.tmps[24]?.getD undef = y24 at ea
    generalize a.tmps[25]?.getD undef = y25 at ea
    generalize a.tmps[26]?.getD undef = y26 at ea
    generalize a.tmps[27]?.getD undef = y27 at ea
    generalize a.tmps[28]?.getD undef = y28 at ea
    generalize a.tmps[29]?.getD undef = y29 at ea
    generalize a.tmps[30]?.getD undef = y30 at ea
    generalize a.tmps[31]?.getD undef = y31 at ea
    generalize a.tmps[32]?.getD undef = y32 at ea
    generalize a.tmps[33]?.getD undef = y33 at ea
    generalize a.tmps[34]?.getD undef = y34 at ea
    generalize a.tmps[35]?.getD undef = y35 at ea
    generalize a.tmps[36]?.getD undef = y36 at ea
    generalize a.tmps[5]?.getD undef = y5 at ea
    clear hsz
    subst ea
    have bx : Ex wr w2 := Ex.trans (show Ex wr wr.drew from (Below.refl _ _).drew) hx
    refine wpOp_do rfl (by rfl) ?_
    have Z2 := LB.ext ZB.out bx
    have bw2 : Ex w w2 := Ex.trans bw bx
    refine wp_st45 _ _ (B + 1) Vn 0 p37 nilP rfl rfl rfl Z2 (fun w3 hd ho => ?_)
    have i3 := i37.st ho Z2
    have bw3 := ho.below w.heap.size (by rw [← HB.out]; omega) w bw2
    refine wpOp_do rfl (by rfl) ?_
    clear CN bx i37 ho Z2 bw2 hx ZB AB TKI DRI
    go_simp
    go_wp2_with (first | (with_reducible refine stop_load45 ?_) | (with_reducible refine stop_store45 ?_))
    exact bodyPost_ret (res_lv rfl _ _ (B + 1) rfl Vn p37 hd) rfl ⟨p37, rfl, l37, i3, bw3⟩
end Go.Proofs.Ytgoiidpcdifojaa
