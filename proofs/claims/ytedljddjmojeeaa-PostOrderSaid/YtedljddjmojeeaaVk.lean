/- known of chapter 11; facts on Do -/
import Derived.Test.YtedljddjmojeeaaVj
import Derived.Lib.SlBytesConst
namespace Go.Proofs.Ytedljddjmojeeaa
open Go.RowKit
theorem wrong_gen (v : Vc) : (wrongC v).gen = v.gen ∧ (wrongC v).id = v.id := by
  unfold wrongC; split <;> exact ⟨rfl, rfl⟩
theorem gone_right {id : List UInt8} {g : Int} {wi : Bool} (h0 : 1 ≤ g) (h1 : g ≤ 1099511627776) : (goneC id g wi).right = true := by
  unfold Vc.right
  rw [show (goneC id g wi).gone = true from rfl, if_pos rfl, show (goneC id g wi).gen = g from rfl, decide_eq_true (⟨h0, h1⟩ : 1 ≤ g ∧ g ≤ 1099511627776), show goneC (goneC id g wi).id g (goneC id g wi).wiped = goneC id g wi from rfl]
  simp
theorem right_split {v : Vc} (h : v.right = true) (hg : v.gone = false) : 1 ≤ v.gen ∧ v.gen ≤ 1099511627776 ∧ v.wiped = false ∧ 1 ≤ v.lim ∧ v.lim ≤ 32 ∧ 0 ≤ v.used ∧ v.used < v.lim ∧ v.sec.length ≤ 64 := by
  unfold Vc.right at h
  rw [hg, if_neg (by simp)] at h
  simp only [Bool.and_eq_true, decide_eq_true_eq, Bool.not_eq_true'] at h
  obtain ⟨⟨a, b⟩, ⟨⟨⟨c, d, e⟩, f⟩, g⟩, i⟩ := h
  exact ⟨a, b, c, d, e, f, g, i⟩
theorem right_mk {v : Vc} (hg : v.gone = false) (h : 1 ≤ v.gen ∧ v.gen ≤ 1099511627776 ∧ v.wiped = false ∧ 1 ≤ v.lim ∧ v.lim ≤ 32 ∧ 0 ≤ v.used ∧ v.used < v.lim ∧ v.sec.length ≤ 64) : v.right = true := by
  obtain ⟨a, b, c, d, e, f, g, i⟩ := h
  unfold Vc.right
  rw [hg, if_neg (by simp)]
  simp only [Bool.and_eq_true, decide_eq_true_eq, Bool.not_eq_true']
  exact ⟨⟨a, b⟩, ⟨⟨⟨c, d, e⟩, f⟩, g⟩, i⟩
theorem right_gen {v : Vc} (h : v.right = true) : 1 ≤ v.gen ∧ v.gen ≤ 1099511627776 := by
  unfold Vc.right at h
  rw [Bool.and_eq_true, decide_eq_true_eq] at h
  exact h.1
/-- a vault of an ID, or none -/
def Kept (id : List UInt8) (v : Vc) : Prop := v = zeroVc ∨ (v.right = true ∧ v.id = id)
structure Fresh (b : Bool) (w op : Int) : Prop where
  b : b = true
  w : w = 0
  o : op = 1 ∨ op = 3
structure Facts (v : Vc) (q : Qc) (v' : Vc) (r' : Rc) (b : Bool) : Prop where
  id : r'.id = q.id
  num : r'.num = q.num
  client : r'.client = q.client
  gen : r'.gen = v'.gen
  kept : Kept q.id v'
  yes : Fresh b r'.why q.op → v'.gen = v.gen + 1
  no : ¬ Fresh b r'.why q.op → v'.gen = v.gen
theorem qright_parts {q : Qc} (h : q.right = true) (ho : q.op = 1 ∨ q.op = 3) : 1 ≤ q.lim ∧ q.lim ≤ 32 ∧ q.sec.length ≤ 64 := by
  unfold Qc.right at h
  rw [if_pos ho] at h
  simp only [Bool.and_eq_true, decide_eq_true_eq] at h
  exact ⟨h.2.1.1, h.2.1.2, h.2.2⟩
theorem do_facts {v : Vc} {q : Qc} (hq : q.right = true) (hv : Kept q.id v) {v' : Vc} {r' : Rc} {b : Bool} (h : (v', r', b) = doC v q) : Facts v q v' r' b := by
  have hop := (Qc.right_op hq).1
  have hc : ¬ (q.right = false ∨ (v ≠ zeroVc ∧ (v.right = false ∨ v.id ≠ q.id))) := by
    rw [hq]
    rintro (h | ⟨h1, h2⟩)
    · cases h
    · rcases hv with hv | ⟨hv1, hv2⟩
      · exact h1 hv
      · rcases h2 with h2 | h2
        · rw [hv1] at h2; cases h2
        · exact h2 hv2
  unfold doC at h
  rw [if_neg hc] at h
  have hz : v = zeroVc → v.gen = 0 := fun e => by rw [e]; rfl
  by_cases hr : refuseC v (decide (v = zeroVc)) q = 0
  · rw [if_pos hr] at h
    have hr0 := hr
    unfold refuseC at hr0
    rcases hop with ho | ho | ho | ho
    · -- kept anew
      have ha : actC v q (repRt 0 q.id q.client q.num).ct = (freshC v q, { (repRt 0 q.id q.client q.num).ct with left := (freshC v q).left }, true) := by
        unfold actC; rw [if_neg (by omega), if_neg (by omega)]
      rw [ha] at h
      simp only [Prod.mk.injEq] at h
      obtain ⟨rfl, rfl, rfl⟩ := h
      have hg : v.gen ≠ 1099511627776 := by
        intro e
        rw [if_neg (by rintro ⟨_, h1, h2⟩; rw [if_pos ⟨ho, h1, h2⟩] at hr0; cases hr0), if_neg (fun h => h.1 ho), if_neg (fun h => h.1 ho), if_neg (by rintro ⟨h | h, _⟩ <;> omega), if_pos ⟨Or.inl ho, e⟩] at hr0
        cases hr0
      have hp := qright_parts hq (Or.inl ho)
      have hgv : 0 ≤ v.gen ∧ v.gen ≤ 1099511627776 := by
        rcases hv with hv | ⟨hv, _⟩
        · rw [hz hv]; omega
        · have := right_gen hv; omega
      exact ⟨rfl, rfl, rfl, rfl, Or.inr ⟨right_mk rfl ⟨by show 1 ≤ v.gen + 1; omega, by show v.gen + 1 ≤ 1099511627776; omega, rfl, hp.1, hp.2.1, Int.le_refl _, by show 0 < q.lim; omega, hp.2.2⟩, rfl⟩, fun _ => rfl, fun hn => absurd ⟨rfl, rfl, Or.inl ho⟩ hn⟩
    · -- recover
      have h2 := refuse_ok hr ho
      have hvr : v.right = true ∧ v.id = q.id := by
        rcases hv with hv | hv
        · exact absurd hv (of_decide_eq_false h2.1)
        · exact hv
      have hs := right_split hvr.1 h2.2
      have ha : actC v q (repRt 0 q.id q.client q.num).ct = guessC v q.pin (repRt 0 q.id q.client q.num).ct := by unfold actC; rw [if_pos ho]
      rw [ha] at h
      have nf : ∀ b w, ¬ Fresh b w q.op := fun b w h => by have := h.o; omega
      unfold guessC at h
      by_cases hpp : q.pin = v.pin
      · rw [if_pos hpp] at h
        simp only [Prod.mk.injEq] at h
        obtain ⟨rfl, rfl, rfl⟩ := h
        exact ⟨rfl, rfl, rfl, rfl, Or.inr hvr, fun hf => absurd hf (nf _ _), fun _ => rfl⟩
      · rw [if_neg hpp] at h
        simp only [Prod.mk.injEq] at h
        obtain ⟨rfl, rfl, rfl⟩ := h
        refine ⟨rfl, rfl, rfl, rfl, Or.inr ⟨?_, (wrong_gen v).2.trans hvr.2⟩, fun hf => absurd hf (nf _ _), fun _ => (wrong_gen v).1⟩
        unfold wrongC
        split
        · exact gone_right hs.1 hs.2.1
        · rename_i hne
          exact right_mk (v := { v with used := v.used + 1 }) h2.2 ⟨hs.1, hs.2.1, hs.2.2.1, hs.2.2.2.1, hs.2.2.2.2.1, by show 0 ≤ v.used + 1; omega, by show v.used + 1 < v.lim; omega, hs.2.2.2.2.2.2.2⟩
    · -- replaced
      have ha : actC v q (repRt 0 q.id q.client q.num).ct = (freshC v q, { (repRt 0 q.id q.client q.num).ct with left := (freshC v q).left }, true) := by
        unfold actC; rw [if_neg (by omega), if_neg (by omega)]
      rw [ha] at h
      simp only [Prod.mk.injEq] at h
      obtain ⟨rfl, rfl, rfl⟩ := h
      have hg : v.gen ≠ 1099511627776 := by
        intro e
        rw [if_neg (by rintro ⟨h1, _⟩; omega)] at hr0
        split at hr0
        · cases hr0
        · split at hr0
          · cases hr0
          · split at hr0
            · cases hr0
            · rw [if_pos ⟨Or.inr ho, e⟩] at hr0; cases hr0
      have hp := qright_parts hq (Or.inr ho)
      have hgv : 0 ≤ v.gen ∧ v.gen ≤ 1099511627776 := by
        rcases hv with hv | ⟨hv, _⟩
        · rw [hz hv]; omega
        · have := right_gen hv; omega
      exact ⟨rfl, rfl, rfl, rfl, Or.inr ⟨right_mk rfl ⟨by show 1 ≤ v.gen + 1; omega, by show v.gen + 1 ≤ 1099511627776; omega, rfl, hp.1, hp.2.1, Int.le_refl _, by show 0 < q.lim; omega, hp.2.2⟩, rfl⟩, fun _ => rfl, fun hn => absurd ⟨rfl, rfl, Or.inr ho⟩ hn⟩
    · -- removed
      have ha : actC v q (repRt 0 q.id q.client q.num).ct = (goneC v.id v.gen false, (repRt 0 q.id q.client q.num).ct, true) := by
        unfold actC; rw [if_neg (by omega), if_pos ho]
      rw [ha] at h
      simp only [Prod.mk.injEq] at h
      obtain ⟨rfl, rfl, rfl⟩ := h
      have hvr : v.right = true ∧ v.id = q.id := by
        rcases hv with hv | hv
        · rw [decide_eq_true hv, if_neg (by rintro ⟨h1, _⟩; omega), if_pos ⟨by omega, rfl⟩] at hr0
          cases hr0
        · exact hv
      have hg := right_gen hvr.1
      exact ⟨rfl, rfl, rfl, rfl, Or.inr ⟨gone_right hg.1 hg.2, hvr.2⟩, fun hf => by have := hf.o; omega, fun _ => rfl⟩
  · rw [if_neg hr] at h
    simp only [Prod.mk.injEq] at h
    obtain ⟨rfl, rfl, rfl⟩ := h
    exact ⟨rfl, rfl, rfl, rfl, hv, fun hf => absurd hf.b (by simp), fun _ => rfl⟩
def kq1 (g : Nat) : Qt := ⟨1, [1, 0, 0, 0], [2, 0, 0, 0, 0, 0, 0, 0, 0, 0, 0, 0, 0, 0, 0, 0], ⟨some ⟨g, 0, none⟩, 1, [115]⟩, 1, z16, z16, 0, 0⟩
def kq2 (x : UInt8) : Qt := ⟨2, [1, 0, 0, 0], [x, 0, 0, 0, 0, 0, 0, 0, 0, 0, 0, 0, 0, 0, 0, 0], nilB, 0, z16, z16, 0, 0⟩
theorem kq1_ok (g : Nat) : (kq1 g).Ok := by
  refine ⟨?_, ?_, rfl, rfl, ?_, ?_, rfl, rfl, ?_, ?_, ?_, ?_⟩
  all_goals (unfold kq1; simp only; decide)
theorem kq2_ok (x : UInt8) : (kq2 x).Ok := by
  refine ⟨?_, ?_, rfl, rfl, ?_, ?_, rfl, rfl, ?_, ?_, ?_, ?_⟩
  all_goals (unfold kq2; simp only; decide)
def kv1 : Vc := ⟨[1, 0, 0, 0], 1, [2, 0, 0, 0, 0, 0, 0, 0, 0, 0, 0, 0, 0, 0, 0, 0], [115], 1, 0, z16, false, false⟩
def kv2 : Vc := goneC [1, 0, 0, 0] 1 true
def kr1 : Rc := ⟨0, [1, 0, 0, 0], 1, 1, [], 0, 0⟩
def kr2 : Rc := ⟨23, [1, 0, 0, 0], 1, 0, [], 0, 0⟩
def kr3 : Rc := ⟨24, [1, 0, 0, 0], 1, 0, [], 0, 0⟩
theorem kd1 (g : Nat) : doC zeroVc (kq1 g).ct = (kv1, kr1, true) := by kernel_rfl
theorem kd2 : doC kv1 (kq2 3).ct = (kv2, kr2, true) := by kernel_rfl
theorem kd3 : doC kv2 (kq2 2).ct = (kv2, kr3, false) := by kernel_rfl
theorem kb1 (g : Nat) : Try.prog.built 33 [(0, .int .i64 1), (1, digV [1, 0, 0, 0]), (2, digV [2, 0, 0, 0, 0, 0, 0, 0, 0, 0, 0, 0, 0, 0, 0, 0]), (3, .slice (some ⟨g, 0, none⟩) 1 1), (4, .int .i64 1)] = some (kq1 g).C.toArray := by kernel_rfl
theorem kb2 (x : UInt8) : Try.prog.built 33 [(0, .int .i64 2), (1, digV [1, 0, 0, 0]), (2, digV [x, 0, 0, 0, 0, 0, 0, 0, 0, 0, 0, 0, 0, 0, 0, 0])] = some (kq2 x).C.toArray := by kernel_rfl
theorem kbi (x : UInt8) : Try.prog.built 24 [(0, .int .u8 x.toNat)] = some (Lib.byteCells [x, 0, 0, 0]).toArray := by kernel_rfl
theorem kbd (x : UInt8) : Try.prog.built 27 [(0, .int .u8 x.toNat)] = some (Lib.byteCells [x, 0, 0, 0, 0, 0, 0, 0, 0, 0, 0, 0, 0, 0, 0, 0]).toArray := by kernel_rfl
theorem lit_pt (W : World) (l : List UInt8) (fr : Nat × Nat) : (Pt.mk (some ⟨W.heap.size, 0, none⟩) l.length l).In (W.alloc (.cells (Lib.byteCells l).toArray 5 fr)) (W.alloc (.cells (Lib.byteCells l).toArray 5 fr)).heap.size := by
  refine ⟨Nat.le_refl _, (fun h => by cases h), fun _ => ⟨W.heap.size, 0, rfl, by simp, fun i hi => ?_⟩⟩
  have h := heap_alloc_new W (.cells (Lib.byteCells l).toArray 5 fr)
  unfold World.cell?
  rw [show (⟨W.heap.size, 0 + i, none⟩ : Addr).block = W.heap.size from rfl, h]
  simp only at hi
  simp [Lib.byteCells, List.getD, hi]
theorem pair_facts {wk wb wc : World} {v : Vt} {r : Rt} {a b : Obj} (o1 : Only wk.heap.size ((wk.alloc a).alloc b) wb) (d1 : VB wb wk.heap.size v) (o2 : Only (wk.heap.size + 1) wb wc) (d2 : RB wc (wk.heap.size + 1) r) : VB wc wk.heap.size v ∧ RB wc (wk.heap.size + 1) r ∧ Ex wk wc :=
  ⟨o2.vb d1 (by omega), d2, o2.below _ (Nat.le_succ _) _ (o1.below _ (Nat.le_refl _) _ (Ex.trans (Ex.alloc _ _) (Ex.alloc _ _)))⟩
set_option maxHeartbeats 4000000 in
set_option maxRecDepth 100000 in
theorem known11 (w : World) : Calls Try.prog 16 #[] w fun e w' => e = .returned (.bool true) ∧ Ex w w' := by
  have hcv := fun (w : World) (C : Array Value) (n c : Nat) => Lib.run_convert_bytes_const (P := Try.prog) w 28 5 C n c Try.underlying28 Try.underlying5
  have I0 : Hid (Pt.In ⟨some ⟨w.heap.size, 0, none⟩, 1, [115]⟩ (w.alloc (.cells #[.int .u8 115] 5 (1, 2))) (w.alloc (.cells #[.int .u8 115] 5 (1, 2))).heap.size) := Lib.hid (lit_pt w [115] (1, 2))
  have BW : Hid (Ex w (w.alloc (.cells #[.int .u8 115] 5 (1, 2)))) := Lib.hid (Ex.alloc w _)
  go_enter Try.func16, Try.ntmps16
  go_wp2_with (first | (with_reducible refine stop_load (t := 30) ?_) | (with_reducible refine stop_store (t := 30) ?_) | (with_reducible refine stop_load (t := 33) ?_) | (with_reducible refine stop_store (t := 33) ?_) | (with_reducible refine stop_load (t := 39) ?_) | (with_reducible refine stop_store (t := 39) ?_) | (with_reducible refine stop_load (t := 27) ?_) | (with_reducible refine stop_store (t := 27) ?_) | (with_reducible refine stop_load (t := 24) ?_) | (with_reducible refine stop_store (t := 24) ?_) | (with_reducible refine stop_build ?_))
  (with_reducible refine ⟨?_⟩); (with_reducible refine at_any ?_ ?_); (focus go_simp); refine fun K0 hK => wp_build _ _ rfl _ (kbi 1) (hK _ _ ?_)
  clear hK
  go_wp2_with (first | (with_reducible refine stop_load (t := 30) ?_) | (with_reducible refine stop_store (t := 30) ?_) | (with_reducible refine stop_load (t := 33) ?_) | (with_reducible refine stop_store (t := 33) ?_) | (with_reducible refine stop_load (t := 39) ?_) | (with_reducible refine stop_store (t := 39) ?_) | (with_reducible refine stop_load (t := 27) ?_) | (with_reducible refine stop_store (t := 27) ?_) | (with_reducible refine stop_load (t := 24) ?_) | (with_reducible refine stop_store (t := 24) ?_) | (with_reducible refine stop_build ?_))
  (with_reducible refine ⟨?_⟩); (with_reducible refine at_any ?_ ?_); (focus go_simp); refine fun K0 hK => wp_build _ _ rfl _ (kbd 2) (hK _ _ ?_)
  clear hK
  go_wp2_with (first | (with_reducible refine stop_load (t := 30) ?_) | (with_reducible refine stop_store (t := 30) ?_) | (with_reducible refine stop_load (t := 33) ?_) | (with_reducible refine stop_store (t := 33) ?_) | (with_reducible refine stop_load (t := 39) ?_) | (with_reducible refine stop_store (t := 39) ?_) | (with_reducible refine stop_load (t := 27) ?_) | (with_reducible refine stop_store (t := 27) ?_) | (with_reducible refine stop_load (t := 24) ?_) | (with_reducible refine stop_store (t := 24) ?_) | (with_reducible refine stop_build ?_))
  (with_reducible refine ⟨?_⟩)
  change wpList _ _ _ _ _ (w.alloc (.cells #[.int .u8 115] 5 (1, 2)))
  obtain ⟨g, hg⟩ : ∃ g, g = w.heap.size := ⟨_, rfl⟩
  generalize hw1 : (w.alloc (.cells #[.int .u8 115] 5 (1, 2))) = w1 at *
  clear hw1 hcv
  rw [← hg] at I0 ⊢
  clear hg
  go_wp2_with (first | (with_reducible refine stop_load (t := 30) ?_) | (with_reducible refine stop_store (t := 30) ?_) | (with_reducible refine stop_load (t := 33) ?_) | (with_reducible refine stop_store (t := 33) ?_) | (with_reducible refine stop_load (t := 39) ?_) | (with_reducible refine stop_store (t := 39) ?_) | (with_reducible refine stop_load (t := 27) ?_) | (with_reducible refine stop_store (t := 27) ?_) | (with_reducible refine stop_load (t := 24) ?_) | (with_reducible refine stop_store (t := 24) ?_) | (with_reducible refine stop_build ?_))
  (with_reducible refine ⟨?_⟩); (with_reducible refine at_any ?_ ?_); (focus go_simp); refine fun K0 hK => wp_build _ _ rfl _ (kb1 g) (hK _ _ ?_)
  clear hK
  go_wp2_with (first | (with_reducible refine stop_load (t := 30) ?_) | (with_reducible refine stop_store (t := 30) ?_) | (with_reducible refine stop_load (t := 33) ?_) | (with_reducible refine stop_store (t := 33) ?_) | (with_reducible refine stop_load (t := 39) ?_) | (with_reducible refine stop_store (t := 39) ?_) | (with_reducible refine stop_load (t := 27) ?_) | (with_reducible refine stop_store (t := 27) ?_) | (with_reducible refine stop_load (t := 24) ?_) | (with_reducible refine stop_store (t := 24) ?_) | (with_reducible refine stop_build ?_))
  (with_reducible refine ⟨?_⟩); (with_reducible refine at_any ?_ ?_); (focus go_simp); refine fun K0 hK => st_q _ _ w1.heap.size (kq1 g) rfl rfl rfl (kq1_ok g) (Bk.new rfl _ _) (by rfl) (fun w2 hd ho => hK _ _ ?_)
  clear hK
  have x2 : Ex w1 w2 := ho.below w1.heap.size (Nat.le_refl _) w1 (Ex.alloc w1 _)
  replace I0 := Lib.hid (I0.out.ext x2)
  replace BW := Lib.hid (Ex.trans BW.out x2)
  generalize w1.heap.size = g1 at *
  have Q1 := Lib.hid hd
  clear hd ho x2
  go_wp2_with (first | (with_reducible refine stop_load (t := 30) ?_) | (with_reducible refine stop_store (t := 30) ?_) | (with_reducible refine stop_load (t := 33) ?_) | (with_reducible refine stop_store (t := 33) ?_) | (with_reducible refine stop_load (t := 39) ?_) | (with_reducible refine stop_store (t := 39) ?_) | (with_reducible refine stop_load (t := 27) ?_) | (with_reducible refine stop_store (t := 27) ?_) | (with_reducible refine stop_load (t := 24) ?_) | (with_reducible refine stop_store (t := 24) ?_) | (with_reducible refine stop_build ?_))
  (with_reducible refine ⟨?_⟩); (with_reducible refine at_any ?_ ?_); (focus go_simp); refine fun K0 hK => wp_build _ _ rfl _ built_zero (hK _ _ ?_)
  clear hK
  go_wp2_with (first | (with_reducible refine stop_load (t := 30) ?_) | (with_reducible refine stop_store (t := 30) ?_) | (with_reducible refine stop_load (t := 33) ?_) | (with_reducible refine stop_store (t := 33) ?_) | (with_reducible refine stop_load (t := 39) ?_) | (with_reducible refine stop_store (t := 39) ?_) | (with_reducible refine stop_load (t := 27) ?_) | (with_reducible refine stop_store (t := 27) ?_) | (with_reducible refine stop_load (t := 24) ?_) | (with_reducible refine stop_store (t := 24) ?_) | (with_reducible refine stop_build ?_))
  (with_reducible refine ⟨?_⟩); (with_reducible refine at_any ?_ ?_); (focus go_simp); refine fun K0 hK => ld_q _ _ (kq1 g) rfl rfl Q1.out (hK _ _ ?_)
  clear hK
  go_wp2_with (first | (with_reducible refine stop_load (t := 30) ?_) | (with_reducible refine stop_store (t := 30) ?_) | (with_reducible refine stop_load (t := 33) ?_) | (with_reducible refine stop_store (t := 33) ?_) | (with_reducible refine stop_load (t := 39) ?_) | (with_reducible refine stop_store (t := 39) ?_) | (with_reducible refine stop_load (t := 27) ?_) | (with_reducible refine stop_store (t := 27) ?_) | (with_reducible refine stop_load (t := 24) ?_) | (with_reducible refine stop_store (t := 24) ?_) | (with_reducible refine stop_build ?_))
  refine (do_any zeroVt (kq1 g) w2 (zeroVt_in _) ⟨kq1_ok g, I0.out⟩).mono ?_
  rintro e w10 ⟨v1, r1, b1, rfl, hz, hv, hro, hrs, xx⟩
  rw [show zeroVt.ct = zeroVc from rfl, kd1] at hz
  simp only [Prod.mk.injEq] at hz
  obtain ⟨z1, z2, rfl⟩ := hz
  have V1C := Lib.hid z1
  have R1C := Lib.hid z2
  have V1I := Lib.hid hv.vi
  have R1O := Lib.hid hro
  replace BW := Lib.hid (Ex.trans BW.out xx)
  clear z1 z2 hv hro hrs xx
  go_wp2_with (first | (with_reducible refine stop_load (t := 30) ?_) | (with_reducible refine stop_store (t := 30) ?_) | (with_reducible refine stop_load (t := 33) ?_) | (with_reducible refine stop_store (t := 33) ?_) | (with_reducible refine stop_load (t := 39) ?_) | (with_reducible refine stop_store (t := 39) ?_) | (with_reducible refine stop_load (t := 27) ?_) | (with_reducible refine stop_store (t := 27) ?_) | (with_reducible refine stop_load (t := 24) ?_) | (with_reducible refine stop_store (t := 24) ?_) | (with_reducible refine stop_build ?_))
  (with_reducible refine ⟨?_⟩); (with_reducible refine at_any ?_ ?_); (focus go_simp); refine fun K0 hK => st_v _ _ w10.heap.size v1 rfl rfl rfl V1I.out.ok ((Bk.new rfl _ _).more _) (by rfl) (fun w11 d1 o1 => hK _ _ ?_)
  clear hK
  have Y1 : Hid (Bk w11 (w10.heap.size + 1) 39 zeroRt.C.toArray) := Lib.hid (o1.bk (Bk.new (by simp) _ _) (by omega))
  have D1 := Lib.hid d1
  have O1 := Lib.hid o1
  clear d1 o1
  go_wp2_with (first | (with_reducible refine stop_load (t := 30) ?_) | (with_reducible refine stop_store (t := 30) ?_) | (with_reducible refine stop_load (t := 33) ?_) | (with_reducible refine stop_store (t := 33) ?_) | (with_reducible refine stop_load (t := 39) ?_) | (with_reducible refine stop_store (t := 39) ?_) | (with_reducible refine stop_load (t := 27) ?_) | (with_reducible refine stop_store (t := 27) ?_) | (with_reducible refine stop_load (t := 24) ?_) | (with_reducible refine stop_store (t := 24) ?_) | (with_reducible refine stop_build ?_))
  (with_reducible refine ⟨?_⟩); (with_reducible refine at_any ?_ ?_); (focus go_simp); refine fun K0 hK => st_r _ _ (w10.heap.size + 1) r1 rfl rfl rfl R1O.out Y1.out (by rfl) (fun w12 d2 o2 => hK _ _ ?_)
  clear hK
  obtain ⟨gv, gr, xx⟩ := pair_facts O1.out D1.out o2 d2
  clear D1 O1 Y1 o2 d2
  replace V1I := Lib.hid (V1I.out.ext xx)
  replace BW := Lib.hid (Ex.trans BW.out xx)
  obtain ⟨g1v, hgn⟩ : ∃ g, g = w10.heap.size := ⟨_, rfl⟩
  rw [← hgn] at gv gr ⊢
  have g1vS := Lib.hid hgn
  have g1vV := Lib.hid gv
  have g1vR := Lib.hid gr
  clear gv gr xx hgn
  go_wp2_with (first | (with_reducible refine stop_load (t := 30) ?_) | (with_reducible refine stop_store (t := 30) ?_) | (with_reducible refine stop_load (t := 33) ?_) | (with_reducible refine stop_store (t := 33) ?_) | (with_reducible refine stop_load (t := 39) ?_) | (with_reducible refine stop_store (t := 39) ?_) | (with_reducible refine stop_load (t := 27) ?_) | (with_reducible refine stop_store (t := 27) ?_) | (with_reducible refine stop_load (t := 24) ?_) | (with_reducible refine stop_store (t := 24) ?_) | (with_reducible refine stop_build ?_))
  clear I0 Q1
  (with_reducible refine ⟨?_⟩); (with_reducible refine at_any ?_ ?_); (focus go_simp); refine fun K0 hK => ld_v _ _ v1 rfl rfl g1vV.out (hK _ _ ?_)
  clear hK
  go_wp2_with (first | (with_reducible refine stop_load (t := 30) ?_) | (with_reducible refine stop_store (t := 30) ?_) | (with_reducible refine stop_load (t := 33) ?_) | (with_reducible refine stop_store (t := 33) ?_) | (with_reducible refine stop_load (t := 39) ?_) | (with_reducible refine stop_store (t := 39) ?_) | (with_reducible refine stop_load (t := 27) ?_) | (with_reducible refine stop_store (t := 27) ?_) | (with_reducible refine stop_load (t := 24) ?_) | (with_reducible refine stop_store (t := 24) ?_) | (with_reducible refine stop_build ?_))
  (with_reducible refine ⟨?_⟩); (with_reducible refine at_any ?_ ?_); (focus go_simp); refine fun K0 hK => wp_build _ _ rfl _ (kbi 1) (hK _ _ ?_)
  clear hK
  go_wp2_with (first | (with_reducible refine stop_load (t := 30) ?_) | (with_reducible refine stop_store (t := 30) ?_) | (with_reducible refine stop_load (t := 33) ?_) | (with_reducible refine stop_store (t := 33) ?_) | (with_reducible refine stop_load (t := 39) ?_) | (with_reducible refine stop_store (t := 39) ?_) | (with_reducible refine stop_load (t := 27) ?_) | (with_reducible refine stop_store (t := 27) ?_) | (with_reducible refine stop_load (t := 24) ?_) | (with_reducible refine stop_store (t := 24) ?_) | (with_reducible refine stop_build ?_))
  (with_reducible refine ⟨?_⟩); (with_reducible refine at_any ?_ ?_); (focus go_simp); refine fun K0 hK => wp_build _ _ rfl _ (kbd 3) (hK _ _ ?_)
  clear hK
  go_wp2_with (first | (with_reducible refine stop_load (t := 30) ?_) | (with_reducible refine stop_store (t := 30) ?_) | (with_reducible refine stop_load (t := 33) ?_) | (with_reducible refine stop_store (t := 33) ?_) | (with_reducible refine stop_load (t := 39) ?_) | (with_reducible refine stop_store (t := 39) ?_) | (with_reducible refine stop_load (t := 27) ?_) | (with_reducible refine stop_store (t := 27) ?_) | (with_reducible refine stop_load (t := 24) ?_) | (with_reducible refine stop_store (t := 24) ?_) | (with_reducible refine stop_build ?_))
  (with_reducible refine ⟨?_⟩); (with_reducible refine at_any ?_ ?_); (focus go_simp); refine fun K0 hK => wp_build _ _ rfl _ (kb2 3) (hK _ _ ?_)
  clear hK
  go_wp2_with (first | (with_reducible refine stop_load (t := 30) ?_) | (with_reducible refine stop_store (t := 30) ?_) | (with_reducible refine stop_load (t := 33) ?_) | (with_reducible refine stop_store (t := 33) ?_) | (with_reducible refine stop_load (t := 39) ?_) | (with_reducible refine stop_store (t := 39) ?_) | (with_reducible refine stop_load (t := 27) ?_) | (with_reducible refine stop_store (t := 27) ?_) | (with_reducible refine stop_load (t := 24) ?_) | (with_reducible refine stop_store (t := 24) ?_) | (with_reducible refine stop_build ?_))
  refine (do_any v1 (kq2 3) w12 V1I.out ⟨kq2_ok 3, nilB_in _ _⟩).mono ?_
  rintro e w20 ⟨v2, r2, b2, rfl, hz, hv, hro, hrs, xx⟩
  rw [V1C.out, kd2] at hz
  simp only [Prod.mk.injEq] at hz
  obtain ⟨z1, z2, rfl⟩ := hz
  have V2C := Lib.hid z1
  have R2C := Lib.hid z2
  have V2I := Lib.hid hv.vi
  have R2O := Lib.hid hro
  replace g1vV := Lib.hid (g1vV.out.ext xx)
  replace g1vR := Lib.hid (g1vR.out.ext xx)
  replace V1I := Lib.hid (V1I.out.ext xx)
  replace BW := Lib.hid (Ex.trans BW.out xx)
  clear z1 z2 hv hro hrs xx
  go_wp2_with (first | (with_reducible refine stop_load (t := 30) ?_) | (with_reducible refine stop_store (t := 30) ?_) | (with_reducible refine stop_load (t := 33) ?_) | (with_reducible refine stop_store (t := 33) ?_) | (with_reducible refine stop_load (t := 39) ?_) | (with_reducible refine stop_store (t := 39) ?_) | (with_reducible refine stop_load (t := 27) ?_) | (with_reducible refine stop_store (t := 27) ?_) | (with_reducible refine stop_load (t := 24) ?_) | (with_reducible refine stop_store (t := 24) ?_) | (with_reducible refine stop_build ?_))
  (with_reducible refine ⟨?_⟩); (with_reducible refine at_any ?_ ?_); (focus go_simp); refine fun K0 hK => st_v _ _ w20.heap.size v2 rfl rfl rfl V2I.out.ok ((Bk.new rfl _ _).more _) (by rfl) (fun w21 d1 o1 => hK _ _ ?_)
  clear hK
  have Y1 : Hid (Bk w21 (w20.heap.size + 1) 39 zeroRt.C.toArray) := Lib.hid (o1.bk (Bk.new (by simp) _ _) (by omega))
  have D1 := Lib.hid d1
  have O1 := Lib.hid o1
  clear d1 o1
  go_wp2_with (first | (with_reducible refine stop_load (t := 30) ?_) | (with_reducible refine stop_store (t := 30) ?_) | (with_reducible refine stop_load (t := 33) ?_) | (with_reducible refine stop_store (t := 33) ?_) | (with_reducible refine stop_load (t := 39) ?_) | (with_reducible refine stop_store (t := 39) ?_) | (with_reducible refine stop_load (t := 27) ?_) | (with_reducible refine stop_store (t := 27) ?_) | (with_reducible refine stop_load (t := 24) ?_) | (with_reducible refine stop_store (t := 24) ?_) | (with_reducible refine stop_build ?_))
  (with_reducible refine ⟨?_⟩); (with_reducible refine at_any ?_ ?_); (focus go_simp); refine fun K0 hK => st_r _ _ (w20.heap.size + 1) r2 rfl rfl rfl R2O.out Y1.out (by rfl) (fun w22 d2 o2 => hK _ _ ?_)
  clear hK
  obtain ⟨gv, gr, xx⟩ := pair_facts O1.out D1.out o2 d2
  clear D1 O1 Y1 o2 d2
  replace g1vV := Lib.hid (g1vV.out.ext xx)
  replace g1vR := Lib.hid (g1vR.out.ext xx)
  replace V1I := Lib.hid (V1I.out.ext xx)
  replace V2I := Lib.hid (V2I.out.ext xx)
  replace BW := Lib.hid (Ex.trans BW.out xx)
  obtain ⟨g2v, hgn⟩ : ∃ g, g = w20.heap.size := ⟨_, rfl⟩
  rw [← hgn] at gv gr ⊢
  have g2vS := Lib.hid hgn
  have g2vV := Lib.hid gv
  have g2vR := Lib.hid gr
  clear gv gr xx hgn
  go_wp2_with (first | (with_reducible refine stop_load (t := 30) ?_) | (with_reducible refine stop_store (t := 30) ?_) | (with_reducible refine stop_load (t := 33) ?_) | (with_reducible refine stop_store (t := 33) ?_) | (with_reducible refine stop_load (t := 39) ?_) | (with_reducible refine stop_store (t := 39) ?_) | (with_reducible refine stop_load (t := 27) ?_) | (with_reducible refine stop_store (t := 27) ?_) | (with_reducible refine stop_load (t := 24) ?_) | (with_reducible refine stop_store (t := 24) ?_) | (with_reducible refine stop_build ?_))
  (with_reducible refine ⟨?_⟩); (with_reducible refine at_any ?_ ?_); (focus go_simp); refine fun K0 hK => ld_v _ _ v2 rfl rfl g2vV.out (hK _ _ ?_)
  clear hK
  go_wp2_with (first | (with_reducible refine stop_load (t := 30) ?_) | (with_reducible refine stop_store (t := 30) ?_) | (with_reducible refine stop_load (t := 33) ?_) | (with_reducible refine stop_store (t := 33) ?_) | (with_reducible refine stop_load (t := 39) ?_) | (with_reducible refine stop_store (t := 39) ?_) | (with_reducible refine stop_load (t := 27) ?_) | (with_reducible refine stop_store (t := 27) ?_) | (with_reducible refine stop_load (t := 24) ?_) | (with_reducible refine stop_store (t := 24) ?_) | (with_reducible refine stop_build ?_))
  (with_reducible refine ⟨?_⟩); (with_reducible refine at_any ?_ ?_); (focus go_simp); refine fun K0 hK => wp_build _ _ rfl _ (kbi 1) (hK _ _ ?_)
  clear hK
  go_wp2_with (first | (with_reducible refine stop_load (t := 30) ?_) | (with_reducible refine stop_store (t := 30) ?_) | (with_reducible refine stop_load (t := 33) ?_) | (with_reducible refine stop_store (t := 33) ?_) | (with_reducible refine stop_load (t := 39) ?_) | (with_reducible refine stop_store (t := 39) ?_) | (with_reducible refine stop_load (t := 27) ?_) | (with_reducible refine stop_store (t := 27) ?_) | (with_reducible refine stop_load (t := 24) ?_) | (with_reducible refine stop_store (t := 24) ?_) | (with_reducible refine stop_build ?_))
  (with_reducible refine ⟨?_⟩); (with_reducible refine at_any ?_ ?_); (focus go_simp); refine fun K0 hK => wp_build _ _ rfl _ (kbd 2) (hK _ _ ?_)
  clear hK
  go_wp2_with (first | (with_reducible refine stop_load (t := 30) ?_) | (with_reducible refine stop_store (t := 30) ?_) | (with_reducible refine stop_load (t := 33) ?_) | (with_reducible refine stop_store (t := 33) ?_) | (with_reducible refine stop_load (t := 39) ?_) | (with_reducible refine stop_store (t := 39) ?_) | (with_reducible refine stop_load (t := 27) ?_) | (with_reducible refine stop_store (t := 27) ?_) | (with_reducible refine stop_load (t := 24) ?_) | (with_reducible refine stop_store (t := 24) ?_) | (with_reducible refine stop_build ?_))
  (with_reducible refine ⟨?_⟩); (with_reducible refine at_any ?_ ?_); (focus go_simp); refine fun K0 hK => wp_build _ _ rfl _ (kb2 2) (hK _ _ ?_)
  clear hK
  go_wp2_with (first | (with_reducible refine stop_load (t := 30) ?_) | (with_reducible refine stop_store (t := 30) ?_) | (with_reducible refine stop_load (t := 33) ?_) | (with_reducible refine stop_store (t := 33) ?_) | (with_reducible refine stop_load (t := 39) ?_) | (with_reducible refine stop_store (t := 39) ?_) | (with_reducible refine stop_load (t := 27) ?_) | (with_reducible refine stop_store (t := 27) ?_) | (with_reducible refine stop_load (t := 24) ?_) | (with_reducible refine stop_store (t := 24) ?_) | (with_reducible refine stop_build ?_))
  refine (do_any v2 (kq2 2) w22 V2I.out ⟨kq2_ok 2, nilB_in _ _⟩).mono ?_
  rintro e w30 ⟨v3, r3, b3, rfl, hz, hv, hro, hrs, xx⟩
  rw [V2C.out, kd3] at hz
  simp only [Prod.mk.injEq] at hz
  obtain ⟨z1, z2, rfl⟩ := hz
  have V3C := Lib.hid z1
  have R3C := Lib.hid z2
  have V3I := Lib.hid hv.vi
  have R3O := Lib.hid hro
  replace g1vV := Lib.hid (g1vV.out.ext xx)
  replace g1vR := Lib.hid (g1vR.out.ext xx)
  replace V1I := Lib.hid (V1I.out.ext xx)
  replace g2vV := Lib.hid (g2vV.out.ext xx)
  replace g2vR := Lib.hid (g2vR.out.ext xx)
  replace V2I := Lib.hid (V2I.out.ext xx)
  replace BW := Lib.hid (Ex.trans BW.out xx)
  clear z1 z2 hv hro hrs xx
  go_wp2_with (first | (with_reducible refine stop_load (t := 30) ?_) | (with_reducible refine stop_store (t := 30) ?_) | (with_reducible refine stop_load (t := 33) ?_) | (with_reducible refine stop_store (t := 33) ?_) | (with_reducible refine stop_load (t := 39) ?_) | (with_reducible refine stop_store (t := 39) ?_) | (with_reducible refine stop_load (t := 27) ?_) | (with_reducible refine stop_store (t := 27) ?_) | (with_reducible refine stop_load (t := 24) ?_) | (with_reducible refine stop_store (t := 24) ?_) | (with_reducible refine stop_build ?_))
  (with_reducible refine ⟨?_⟩); (with_reducible refine at_any ?_ ?_); (focus go_simp); refine fun K0 hK => st_v _ _ w30.heap.size v3 rfl rfl rfl V3I.out.ok ((Bk.new rfl _ _).more _) (by rfl) (fun w31 d1 o1 => hK _ _ ?_)
  clear hK
  have Y1 : Hid (Bk w31 (w30.heap.size + 1) 39 zeroRt.C.toArray) := Lib.hid (o1.bk (Bk.new (by simp) _ _) (by omega))
  have D1 := Lib.hid d1
  have O1 := Lib.hid o1
  clear d1 o1
  go_wp2_with (first | (with_reducible refine stop_load (t := 30) ?_) | (with_reducible refine stop_store (t := 30) ?_) | (with_reducible refine stop_load (t := 33) ?_) | (with_reducible refine stop_store (t := 33) ?_) | (with_reducible refine stop_load (t := 39) ?_) | (with_reducible refine stop_store (t := 39) ?_) | (with_reducible refine stop_load (t := 27) ?_) | (with_reducible refine stop_store (t := 27) ?_) | (with_reducible refine stop_load (t := 24) ?_) | (with_reducible refine stop_store (t := 24) ?_) | (with_reducible refine stop_build ?_))
  (with_reducible refine ⟨?_⟩); (with_reducible refine at_any ?_ ?_); (focus go_simp); refine fun K0 hK => st_r _ _ (w30.heap.size + 1) r3 rfl rfl rfl R3O.out Y1.out (by rfl) (fun w32 d2 o2 => hK _ _ ?_)
  clear hK
  obtain ⟨gv, gr, xx⟩ := pair_facts O1.out D1.out o2 d2
  clear D1 O1 Y1 o2 d2
  replace g1vV := Lib.hid (g1vV.out.ext xx)
  replace g1vR := Lib.hid (g1vR.out.ext xx)
  replace V1I := Lib.hid (V1I.out.ext xx)
  replace g2vV := Lib.hid (g2vV.out.ext xx)
  replace g2vR := Lib.hid (g2vR.out.ext xx)
  replace V2I := Lib.hid (V2I.out.ext xx)
  replace V3I := Lib.hid (V3I.out.ext xx)
  replace BW := Lib.hid (Ex.trans BW.out xx)
  obtain ⟨g3v, hgn⟩ : ∃ g, g = w30.heap.size := ⟨_, rfl⟩
  rw [← hgn] at gv gr ⊢
  have g3vS := Lib.hid hgn
  have g3vV := Lib.hid gv
  have g3vR := Lib.hid gr
  clear gv gr xx hgn
  obtain ⟨a0, a5, a6, a7, a8, a9⟩ := g1vR.out.cells
  obtain ⟨b0, b5, b6, b7, b8, b9⟩ := g2vR.out.cells
  obtain ⟨c0, c5, c6, c7, c8, c9⟩ := g3vR.out.cells
  obtain ⟨d4, d21, d22, d23, d40, d41⟩ := g2vV.out.cells
  rw [show r1.why = 0 from congrArg (·.why) R1C.out] at a0
  rw [show r1.gen = 1 from congrArg (·.gen) R1C.out] at a5
  rw [show r1.left = 1 from congrArg (·.left) R1C.out] at a6
  rw [show r2.why = 23 from congrArg (·.why) R2C.out] at b0
  rw [show r2.left = 0 from congrArg (·.left) R2C.out] at b6
  rw [show v2.gone = true from congrArg (·.gone) V2C.out] at d40
  rw [show v2.wiped = true from congrArg (·.wiped) V2C.out] at d41
  rw [show r3.why = 24 from congrArg (·.why) R3C.out] at c0
  have l3 : r3.sec.l = [] := congrArg (·.sec) R3C.out
  unfold Pt.V at c7
  rw [l3] at c7
  clear l3 a7 a8 a9 b5 b7 b8 b9 c5 c6 c8 c9 d4 d21 d22 d23
  go_wp2_with fail
  go_ret
  exact ⟨rfl, BW.out⟩
end Go.Proofs.Ytedljddjmojeeaa
