/- maps of numbers; kinds of what Do does -/
import Derived.Test.YtedljddjmojeeaaVk
import Derived.Maps.Own
import Derived.Maps.Views
import Derived.Carry
namespace Go.Proofs.Ytedljddjmojeeaa
open Go.RowKit
theorem mkeys : Go.Maps.Keyed Try.prog 25 := Go.Maps.int_keyed Try.underlying25
theorem mzero (w : World) : (zeroValue 3).run Try.prog w = .ok (.int .i64 0) w := by kernel_rfl
/-- block b is a map of numbers, by numbers: f -/
def MB (w : World) (b n : Nat) (f : Int → Int) : Prop := ∃ D : DataW Unit, w.ownsMap Try.prog 25 (plainElem Try.prog 3) b n D ∧ ∀ g, D.atKey (.int .u64 g) (.lit (.int .i64 0)) = .lit (.int .i64 (f g))
theorem MB.lt {w : World} {b n : Nat} {f : Int → Int} (h : MB w b n f) : b < w.heap.size := by obtain ⟨D, h1, _⟩ := h; exact h1.lt
theorem MB.same {w w' : World} {b n : Nat} {f : Int → Int} (h : MB w b n f) (k : w'.heap[b]? = w.heap[b]?) : MB w' b n f := by
  obtain ⟨D, ⟨es, clock, hb, F, hs, hD⟩, h2⟩ := h
  exact ⟨D, ⟨es, clock, k.trans hb, F, hs, hD⟩, h2⟩
theorem MB.ext {w w' : World} {b n : Nat} {f : Int → Int} (h : MB w b n f) (k : Ex w w') : MB w' b n f := h.same (k.block b h.lt)
theorem Only.mb {g b n : Nat} {w w' : World} {f : Int → Int} (k : Only g w w') (h : MB w b n f) (hne : b ≠ g) : MB w' b n f := h.same (k.other b hne)
theorem Md.mb {g b n : Nat} {w w' : World} {f : Int → Int} (k : Md g w w') (h : MB w b n f) (hne : b ≠ g) : MB w' b n f := h.same (k.other b hne h.lt)
theorem mb_new (w : World) : MB (w.alloc (.map #[] 0)) w.heap.size 0 (fun _ => 0) := ⟨_, World.ownsMap_made _ _ _ _, fun _ => rfl⟩
theorem Md.of_grown {b : Nat} {w w' : World} (h : w.grownBy w' (some b)) (hb : b < w.heap.size) : Md b w w' :=
  ⟨fun B hB a ha => ha.grown h (by omega) (fun k hk => by injection hk with hk; omega), fun i hi hl => h.block i hl (fun e => hi (by injection e)), h.size⟩
theorem PN.md {w w' : World} {lo b : Nat} {p : Pt} (h : PN w lo p) (k : Md b w w') (hb : b < lo) : PN w' lo p := by
  refine ⟨⟨h.1.cap, h.1.nil, fun h0 => ?_⟩, fun a e => ⟨(h.2 a e).1, (h.2 a e).2.elim fun cs hc => ⟨cs, k.bk hc (by have := (h.2 a e).1; omega)⟩⟩⟩
  obtain ⟨a, o, e, hB, hc⟩ := h.1.read h0
  have hl := (h.2 _ e).1
  refine ⟨a, o, e, Nat.lt_of_lt_of_le hB k.size, fun i hi => ?_⟩
  rw [← hc i hi]
  simp only [World.cell?, k.other a (by simp at hl; omega) hB]
theorem VN.md {w w' : World} {lo b : Nat} {v : Vt} (h : VN w lo v) (k : Md b w w') (hb : b < lo) : VN w' lo v := ⟨h.1, h.2.md k hb⟩
section
variable {P : Program} {ops : Array Oper} {rest : List Oper} {d : Option Tmp} {t2 : TypeId} {pos : String} {af : Array Edge} {g : Option (Nat × Bool)} {a : Act} {w : World} {Q : Exit → Act → World → Prop}
theorem stop_look {t : TypeId} {x y : Operand} {b : Bool} (k : Stop (wpList P ops Q ({ dst := d, op := .lookup t x y b, type := t2, pos := pos, after := af, guard := g } :: rest) a w)) : wpList P ops Q ({ dst := d, op := .lookup t x y b, type := t2, pos := pos, after := af, guard := g } :: rest) a w := k.go
theorem stop_mput {t : TypeId} {x y z : Operand} (k : Stop (wpList P ops Q ({ dst := d, op := .mapUpdate t x y z, type := t2, pos := pos, after := af, guard := g } :: rest) a w)) : wpList P ops Q ({ dst := d, op := .mapUpdate t x y z, type := t2, pos := pos, after := af, guard := g } :: rest) a w := k.go
end
section
variable {o : Oper} {a : Act} {w : World} {K : Act → World → Prop} {Q : Exit → Act → World → Prop}
theorem wf64 {g : Int} (h0 : 0 ≤ g) (h1 : g < 18446744073709551616) : (Lit.int .u64 g).wf = true := by
  simp [Lit.wf, IntKind.min, IntKind.max, IntKind.signed, IntKind.bits]; omega
theorem wfi64 {g : Int} (h0 : -9223372036854775808 ≤ g) (h1 : g ≤ 9223372036854775807) : (Lit.int .i64 g).wf = true := by
  simp [Lit.wf, IntKind.min, IntKind.max, IntKind.signed, IntKind.bits]; omega
theorem wp_look (m x : Operand) (ho : o.op = .lookup 31 m x false) (b n : Nat) (f : Int → Int) (g : Int) (z : Int) (hm : a.eval m = .map (some b)) (hx : a.eval x = .int .u64 g) (h : MB w b n f) (g0 : 0 ≤ g) (g1 : g < 18446744073709551616) (hz : f g = z)
    (hk : K (a.put o.dst (.int .i64 z)) w) : o.wp Try.prog a w K Q := by
  obtain ⟨D, h1, h2⟩ := h
  obtain ⟨c, hrun, hat, _⟩ := h1.lookup_int mkeys Try.underlying31 Try.underlying3 (mzero w) (Go.Maps.keyOf_int_mk Try.underlying25 (wf64 g0 g1))
  rw [h2 g, hz] at hat
  have hc : c = z := by simp only [DataW.lit.injEq, Lit.int.injEq, true_and] at hat; exact hat.symm
  rw [hc] at hrun
  unfold Oper.wp
  simp [execOp, ho, hm, hx, hrun, Result.andThen]
  exact hk
theorem wp_mput (m x y : Operand) (ho : o.op = .mapUpdate 31 m x y) (b n : Nat) (f : Int → Int) (g z : Int) (hm : a.eval m = .map (some b)) (hx : a.eval x = .int .u64 g) (hy : a.eval y = .int .i64 z) (h : MB w b n f) (hn : n < 1000000) (g0 : 0 ≤ g) (g1 : g < 18446744073709551616) (z0 : -9223372036854775808 ≤ z) (z1 : z ≤ 9223372036854775807)
    (hk : ∀ w', MB w' b (n + 1) (fun i => if i = g then z else f i) → Md b w w' → K (a.put o.dst undef) w') : o.wp Try.prog a w K Q := by
  have hlt := h.lt
  obtain ⟨D, h1, h2⟩ := h
  have hM : Go.Maps.IsMap D := by obtain ⟨es, clock, _, _, _, e⟩ := h1; exact ⟨_, e⟩
  obtain ⟨w', hrun, r1, r2⟩ := h1.update mkeys Try.underlying31 (by unfold maxLen; omega) (Go.Maps.keyOf_int_mk Try.underlying25 (wf64 g0 g1)) (plainElem_int Try.underlying3 (wfi64 z0 z1))
  unfold Oper.wp
  simp [execOp, ho, hm, hx, hy, hrun, Result.andThen]
  refine hk w' ⟨_, r1, fun i => ?_⟩ (Md.of_grown r2 hlt)
  by_cases e : i = g
  · rw [e, Go.Maps.atKey_put_same hM (show Go.WideAt.IsKeyLit (.int .u64 g) from trivial)]
    show _ = DataW.lit (Lit.int .i64 (if g = g then z else f g))
    rw [if_pos rfl]
  · rw [Go.Maps.atKey_put_other (fun h => e (by simp only [Lit.int.injEq, true_and] at h; exact h)), h2]
    show _ = DataW.lit (Lit.int .i64 (if i = g then z else f i))
    rw [if_neg e]
end
/-- what Do does: kept anew; refused; told; a wrong guess; removed -/
inductive Kind (v : Vc) (q : Qc) : Vc → Rc → Bool → Prop
  | fresh (ho : q.op = 1 ∨ q.op = 3) (hg : v.gen < 1099511627776) : Kind v q (freshC v q) ⟨0, q.id, v.gen + 1, (freshC v q).left, [], q.client, q.num⟩ true
  | refused (e : Int) (h0 : e ≠ 0) (h23 : e ≠ 23) : Kind v q v ⟨e, q.id, v.gen, 0, [], q.client, q.num⟩ false
  | told (ho : q.op = 2) (hv : v.right = true) (hg : v.gone = false) (hp : q.pin = v.pin) : Kind v q v ⟨0, q.id, v.gen, v.left, v.sec, q.client, q.num⟩ false
  | wrong (ho : q.op = 2) (hv : v.right = true) (hg : v.gone = false) : Kind v q (wrongC v) ⟨23, q.id, v.gen, (wrongC v).left, [], q.client, q.num⟩ true
  | removed (ho : q.op = 4) (hv : v.right = true) (hg : v.gone = false) : Kind v q (goneC v.id v.gen false) ⟨0, q.id, v.gen, 0, [], q.client, q.num⟩ true
theorem refuse_not {v : Vc} {n : Bool} {q : Qc} : refuseC v n q ≠ 23 := by
  unfold refuseC
  repeat' split
  all_goals decide
theorem do_kind {v : Vc} {q : Qc} (hq : q.right = true) (hv : Kept q.id v) : Kind v q (doC v q).1 (doC v q).2.1 (doC v q).2.2 := by
  have hop := (Qc.right_op hq).1
  have hc : ¬ (q.right = false ∨ (v ≠ zeroVc ∧ (v.right = false ∨ v.id ≠ q.id))) := by
    rw [hq]
    rintro (h | ⟨h1, h2⟩)
    · cases h
    · rcases hv with hv | ⟨hv1, hv2⟩
      · exact h1 hv
      · rcases h2 with h2 | h2
        · rw [hv1] at h2; cases h2
        · exact h2 hv2
  have hgv : 0 ≤ v.gen ∧ v.gen ≤ 1099511627776 := by
    rcases hv with hv | ⟨hv, _⟩
    · rw [hv]; exact ⟨Int.le_refl _, by show (0 : Int) ≤ _; decide⟩
    · have := right_gen hv; omega
  unfold doC
  rw [if_neg hc]
  by_cases hr : refuseC v (decide (v = zeroVc)) q = 0
  · rw [if_pos hr]
    have hr0 := hr
    unfold refuseC at hr0
    have hnew : (q.op = 1 ∨ q.op = 3) → v.gen ≠ 1099511627776 := by
      intro ho e
      split at hr0
      · cases hr0
      · split at hr0
        · cases hr0
        · split at hr0
          · cases hr0
          · split at hr0
            · cases hr0
            · rw [if_pos ⟨ho, e⟩] at hr0; cases hr0
    have hold : q.op ≠ 1 → v ≠ zeroVc ∧ v.gone = false := by
      intro ho
      rw [if_neg (fun h => ho h.1)] at hr0
      split at hr0
      · cases hr0
      · rename_i h1
        split at hr0
        · cases hr0
        · rename_i h2
          refine ⟨fun e => h1 ⟨ho, decide_eq_true e⟩, ?_⟩
          cases hg : v.gone
          · rfl
          · exact absurd ⟨ho, hg⟩ h2
    have hvr : q.op ≠ 1 → v.right = true := fun ho => hv.elim (fun e => absurd e (hold ho).1) (fun h => h.1)
    have fr : (q.op = 1 ∨ q.op = 3) → actC v q (repRt 0 q.id q.client q.num).ct = (freshC v q, { (repRt 0 q.id q.client q.num).ct with left := (freshC v q).left }, true) := fun ho => by
      unfold actC; rw [if_neg (by omega), if_neg (by omega)]
    rcases hop with ho | ho | ho | ho
    · rw [fr (Or.inl ho)]
      have := hnew (Or.inl ho)
      exact .fresh (Or.inl ho) (by omega)
    · have ha : actC v q (repRt 0 q.id q.client q.num).ct = guessC v q.pin (repRt 0 q.id q.client q.num).ct := by unfold actC; rw [if_pos ho]
      rw [ha]
      unfold guessC
      by_cases hpp : q.pin = v.pin
      · rw [if_pos hpp]
        exact .told ho (hvr (by omega)) (hold (by omega)).2 hpp
      · rw [if_neg hpp]
        have e := (wrong_gen v).1
        have k := Kind.wrong (v := v) (q := q) ho (hvr (by omega)) (hold (by omega)).2
        show Kind v q (wrongC v) ⟨23, q.id, (wrongC v).gen, (wrongC v).left, [], q.client, q.num⟩ true
        rw [e]; exact k
    · rw [fr (Or.inr ho)]
      have := hnew (Or.inr ho)
      exact .fresh (Or.inr ho) (by omega)
    · have ha : actC v q (repRt 0 q.id q.client q.num).ct = (goneC v.id v.gen false, (repRt 0 q.id q.client q.num).ct, true) := by
        unfold actC; rw [if_neg (by omega), if_pos ho]
      rw [ha]
      exact .removed ho (hvr (by omega)) (hold (by omega)).2
  · rw [if_neg hr]
    exact .refused _ hr refuse_not
/-- what holds of a vault, of wrong guesses and limits by Gen, of the Gen that is over -/
structure Inv (v : Vc) (fw fl : Int → Int) (over : Int) : Prop where
  kept : Kept [1, 0, 0, 0] v
  over0 : 0 ≤ over
  over1 : over ≤ v.gen
  later : ∀ g, v.gen < g → fw g = 0 ∧ fl g = 0
  now : v.right = true → v.gone = false → over < v.gen ∧ fl v.gen = v.lim ∧ fw v.gen = v.used
theorem Inv.zero : Inv zeroVc (fun _ => 0) (fun _ => 0) 0 := ⟨Or.inl rfl, Int.le_refl _, Int.le_refl _, fun _ _ => ⟨rfl, rfl⟩, fun h => by have e : zeroVc.right = false := rfl; rw [e] at h; cases h⟩
theorem Kept.gen {id : List UInt8} {v : Vc} (h : Kept id v) : 0 ≤ v.gen ∧ v.gen ≤ 1099511627776 := by
  rcases h with h | ⟨h, _⟩
  · rw [h]; exact ⟨Int.le_refl _, by show (0 : Int) ≤ _; decide⟩
  · have := right_gen h; omega
theorem Inv.fresh {v : Vc} {q : Qc} {fw fl : Int → Int} {over : Int} (h : Inv v fw fl over) (hk : Kept [1, 0, 0, 0] (freshC v q)) : Inv (freshC v q) fw (fun i => if i = v.gen + 1 then q.lim else fl i) over :=
  ⟨hk, h.over0, by show over ≤ v.gen + 1; have := h.over1; omega, fun g hg => by
    have hg : v.gen + 1 < g := hg
    have := h.later g (by omega)
    refine ⟨this.1, ?_⟩
    show (if g = v.gen + 1 then q.lim else fl g) = 0
    rw [if_neg (by omega)]; exact this.2, fun _ _ => ⟨by show over < v.gen + 1; have := h.over1; omega, by show (if v.gen + 1 = v.gen + 1 then q.lim else fl (v.gen + 1)) = q.lim; rw [if_pos rfl], (h.later (v.gen + 1) (by omega)).1⟩⟩
theorem Inv.removed {v : Vc} {fw fl : Int → Int} {over : Int} (h : Inv v fw fl over) (hk : Kept [1, 0, 0, 0] (goneC v.id v.gen false)) : Inv (goneC v.id v.gen false) fw fl over :=
  ⟨hk, h.over0, h.over1, h.later, fun _ e => by cases e⟩
theorem Inv.wrong {v : Vc} {fw fl : Int → Int} {over : Int} (h : Inv v fw fl over) (hv : v.right = true) (hg : v.gone = false) (hk : Kept [1, 0, 0, 0] (wrongC v)) : Inv (wrongC v) (fun i => if i = v.gen then v.used + 1 else fw i) fl (if v.used + 1 = v.lim then v.gen else over) := by
  have hn := h.now hv hg
  have hge := Kept.gen h.kept
  refine ⟨hk, by split; exact hge.1; exact h.over0, by rw [(wrong_gen v).1]; split; exact Int.le_refl _; exact h.over1, fun g hg => ?_, fun h1 h2 => ?_⟩
  · rw [(wrong_gen v).1] at hg
    refine ⟨?_, (h.later g hg).2⟩
    show (if g = v.gen then v.used + 1 else fw g) = 0
    rw [if_neg (by omega)]; exact (h.later g hg).1
  · unfold wrongC at h1 h2 ⊢
    by_cases e : v.used + 1 = v.lim
    · rw [if_pos e] at h2; cases h2
    · rw [if_neg e, if_neg e]
      exact ⟨hn.1, hn.2.1, by show (if v.gen = v.gen then v.used + 1 else fw v.gen) = v.used + 1; rw [if_pos rfl]⟩
theorem wrong_left {v : Vc} (hv : v.right = true) (hg : v.gone = false) : (wrongC v).left = v.lim - (v.used + 1) := by
  have hs := right_split hv hg
  unfold wrongC
  by_cases e : v.used + 1 = v.lim
  · rw [if_pos e]
    unfold Vc.left
    rw [if_pos (show (goneC v.id v.gen true).gone = true from rfl)]; omega
  · rw [if_neg e]
    unfold Vc.left
    rw [if_neg (by show ¬ v.gone = true; rw [hg]; simp), if_pos (right_mk (v := { v with used := v.used + 1 }) hg ⟨hs.1, hs.2.1, hs.2.2.1, hs.2.2.2.1, hs.2.2.2.2.1, by show 0 ≤ v.used + 1; omega, by show v.used + 1 < v.lim; omega, hs.2.2.2.2.2.2.2⟩)]
theorem right_min {q : Qt} (h : q.ct.right = true) (id : List UInt8) (z : Int) (hz : z = min q.lim 4) : (Qt.ct { q with id := id, lim := z }).right = true := by
  have h' := h
  unfold Qc.right at h ⊢
  rw [Bool.and_eq_true] at h
  rw [Bool.and_eq_true]
  refine ⟨h.1, ?_⟩
  have h2 := h.2
  show (if q.op = 1 ∨ q.op = 3 then decide (1 ≤ z ∧ z ≤ 32) && decide (q.sec.l.length ≤ 64) else if q.op = 2 then decide (z = 0) && decide (q.own = z16) && decide (q.sec.l = []) else if q.op = 4 then decide (z = 0) && decide (q.pin = z16) && decide (q.sec.l = []) else false) = true
  replace h2 : (if q.op = 1 ∨ q.op = 3 then decide (1 ≤ q.lim ∧ q.lim ≤ 32) && decide (q.sec.l.length ≤ 64) else if q.op = 2 then decide (q.lim = 0) && decide (q.own = z16) && decide (q.sec.l = []) else if q.op = 4 then decide (q.lim = 0) && decide (q.pin = z16) && decide (q.sec.l = []) else false) = true := h2
  split
  · rename_i ho
    rw [if_pos ho] at h2
    simp only [Bool.and_eq_true, decide_eq_true_eq] at h2 ⊢
    exact ⟨by omega, h2.2⟩
  · rename_i ho
    rw [if_neg ho] at h2
    split
    · rename_i h3
      rw [if_pos h3] at h2
      simp only [Bool.and_eq_true, decide_eq_true_eq] at h2 ⊢
      exact ⟨⟨by omega, h2.1.2⟩, h2.2⟩
    · rename_i h3
      rw [if_neg h3] at h2
      split
      · rename_i h4
        rw [if_pos h4] at h2
        simp only [Bool.and_eq_true, decide_eq_true_eq] at h2 ⊢
        exact ⟨⟨by omega, h2.1.2⟩, h2.2⟩
      · rename_i h4
        rw [if_neg h4] at h2; cases h2
end Go.Proofs.Ytedljddjmojeeaa
