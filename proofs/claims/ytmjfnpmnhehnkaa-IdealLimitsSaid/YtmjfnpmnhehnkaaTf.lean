/- what Insert stands on: copy, append of zeros, where an appended row lies -/
import Derived.Test.YtmjfnpmnhehnkaaTe
import Derived.Lib.Overlaps
import Derived.Lib.AppendZeros
import Derived.Laws.CopyRow
namespace Go.Proofs.Ytmjfnpmnhehnkaa
open Go.RowKit
/-- where a row lies behind a step -/
def Lies (w : World) (v v' : Value) : Prop := v'.ownBlock = v.ownBlock ∨ ∀ g, v'.ownBlock = some g → w.heap.size ≤ g
theorem append_where (w : World) (t ty e : TypeId) (i : TypeInfo) (z : Value) (size bytes : Nat) (ht : Try.prog.underlying t = some (.slice e)) (hi : Try.prog.info? e = some i) (hz : i.zero = some z)
    (hsize : i.size = size) (hby : i.bytes = bytes) (B n : Nat) (v : Value) (xs : List Value) (hown : w.ownsRow B e size v n xs)
    (a : Addr) (m c : Nat) (news : List Value) (hl : news.length = m * size) (hnews : ∀ j u, news[j]? = some u → w.cell? (a.add j) = some u) (h1 : ∀ u ∈ news, u.oneCell' = true)
    (hm : 0 < m) (h63 : n + m ≤ maxLen) (hbytes : (n + m) * bytes ≤ 140737488355328) {v' : Value} {w' : World} (hr : (Builtin.append_ #[t, t] ty #[v, .slice (some a) m c]).run Try.prog w = .ok v' w') : Lies w v v' := by
  subst hsize
  subst hby
  have hsmall : n + m ≤ 9223372036854775807 := by simp only [maxLen] at h63; omega
  rcases hown.2 with ⟨rfl, rfl⟩ | ⟨g, cap, cur, rfl, hbg, hg, hnc, hcm, hcs, htake⟩
  · have h2 := run_append_nil (P := Try.prog) w t ty e i z ht hi hz a m c news hl hnews hm (by omega) (by have hb := hbytes; simp only [Nat.zero_add] at hb; omega)
    rw [h2] at hr
    cases hr
    exact Or.inr fun g hg => by cases hg; exact Nat.le_refl _
  · by_cases hroom : n + m ≤ cap
    · have hfit : n * i.size + news.length ≤ cur.size := by rw [hl, hcs, ← Nat.add_mul]; exact Nat.mul_le_mul_right _ hroom
      have h2 := run_append_room (P := Try.prog) w t ty e i ht hi g n cap cur hg a m c news hl hnews h1 hroom hfit
      rw [h2] at hr
      cases hr
      exact Or.inl rfl
    · have holds : ∀ j u, xs[j]? = some u → w.cell? ((⟨g, 0, none⟩ : Addr).add j) = some u := hown.cells (g := g) rfl
      have h2 := run_append_grow (P := Try.prog) w t ty e i z ht hi hz ⟨g, 0, none⟩ n cap xs hown.1 holds a m c news hl hnews (by omega) (by omega) (growslice_fits (by omega) hbytes)
      rw [h2] at hr
      cases hr
      exact Or.inr fun g hg => by cases hg; exact Nat.le_refl _
theorem wp_rtell {o : Oper} {a : Act} {w : World} {K : Act → World → Prop} {Q : Exit → Act → World → Prop} (s x : Operand) (t e : TypeId) (z : Value) (sz bytes : Nat)
    (hop : o.op = .call { callee := .builtin .append, args := #[s, x], argTypes := #[t, t] }) (hu : Try.prog.underlying t = some (.slice e))
    (hinfo : (Try.prog.info? e).map (fun i => (i.zero, i.size, i.bytes)) = some (some z, sz, bytes)) (hz : z.cells.size = sz) (hp : 0 < sz)
    (B n : Nat) (v : Value) (xs : List Value) (hs : a.eval s = v) (hown : w.ownsRow B e sz v n xs) (hB : B ≤ w.heap.size)
    (A : Addr) (m c : Nat) (ys : List Value) (hx : a.eval x = .slice (some A) m c) (hl : ys.length = m * sz) (hr : ∀ j u, ys[j]? = some u → w.cell? (A.add j) = some u) (h1 : ∀ u ∈ ys, u.oneCell' = true) (hm : 0 < m)
    (hN : n + m ≤ 9223372036854775807) (hby : (n + m) * bytes ≤ 140737488355328)
    (h : ∀ v' w', w'.ownsRow B e sz v' (n + m) (xs ++ ys) → w.grownBy w' v.ownBlock → Lies w v v' → K (a.put o.dst v') w') : o.wp Try.prog a w K Q := by
  obtain ⟨i0, hi0, hz0, hz1, hz2⟩ := info_parts hinfo
  obtain ⟨v', w', hrun, r1, r2, _⟩ := run_append_own (P := Try.prog) w B t o.type e i0 z sz bytes hu hi0 hz0 hz1 hz2 hz hp v n xs hown A m c ys hl hr h1 hN hby hB
  have r3 := append_where w t o.type e i0 z sz bytes hu hi0 hz0 hz1 hz2 B n v xs hown A m c ys hl hr h1 hm hN hby hrun
  unfold Oper.wp
  simp [execOp, hop, resolve, invoke, builtin, hs, hx, hrun, Result.andThen]
  exact h v' w' r1 r2 r3
/-- copy into a block -/
theorem run_copy_bk (w : World) (dT sT ty elem : TypeId) (g o dLen dCap : Nat) (A : Addr) (sLen sCap sz : Nat) (C : List Value) (t : TypeId) (cs : List Value)
    (hu : Try.prog.underlying dT = some (.slice elem)) (hs : (Try.prog.info? elem).map (·.size) = some sz) (hg : Bk w g t C.toArray) (hn : cs.length = Nat.min sLen dLen * sz)
    (hsrc : ∀ j v, cs[j]? = some v → w.cell? (A.add j) = some v) (hfit : o + cs.length ≤ C.length) (h1 : ∀ v ∈ cs, v.oneCell' = true) :
    (Builtin.copy_ #[dT, sT] ty #[.slice (some ⟨g, o, none⟩) dLen dCap, .slice (some A) sLen sCap]).run Try.prog w = .ok (goInt (Nat.min sLen dLen)) (w.setRow g (C.take o ++ cs ++ C.drop (o + cs.length)).toArray) := by
  have hl := run_loadCells_list (P := Try.prog) w A cs hsrc
  have hst := run_storeCells_at Try.prog g o t cs 0 C.toArray w hg (by simpa using hfit) h1
  simp only [Nat.add_zero] at hst
  cases hq : Try.prog.info? elem with
  | none => simp [hq] at hs
  | some i =>
    have hi : i.size = sz := by simpa [hq] using hs
    simp [Builtin.copy_, run_underlying hu, Builtin.lenOf, Builtin.firstCells, sizeOf, typeInfo, hq, hi, ← hn, hl, hst]
theorem Only.setRow (w : World) (g : Nat) (cs : Array Value) : Only g w (w.setRow g cs) := by
  refine ⟨fun B hB a ha => ⟨ha.os, ha.tape, ha.output, by rw [show (w.setRow g cs).heap.size = w.heap.size by simp [World.setRow]]; exact ha.size, fun k hk => (setRow_other w g k cs (by omega)).trans (ha.block k hk)⟩, fun h hne => setRow_other w g h cs hne, by simp [World.setRow]⟩
theorem wp_copy_bk {o : Oper} {a : Act} {w : World} {K : Act → World → Prop} {Q : Exit → Act → World → Prop} (d s : Operand) (dT sT elem : TypeId) (g off dLen dCap : Nat) (A : Addr) (sLen sCap sz : Nat) (C : List Value) (t : TypeId) (cs : List Value)
    (ho : o.op = .call { callee := .builtin .copy, args := #[d, s], argTypes := #[dT, sT] }) (hd : a.eval d = .slice (some ⟨g, off, none⟩) dLen dCap) (hs' : a.eval s = .slice (some A) sLen sCap)
    (hu : Try.prog.underlying dT = some (.slice elem)) (hs : (Try.prog.info? elem).map (·.size) = some sz) (hg : Bk w g t C.toArray) (hn : cs.length = Nat.min sLen dLen * sz)
    (hsrc : ∀ j v, cs[j]? = some v → w.cell? (A.add j) = some v) (hfit : off + cs.length ≤ C.length) (h1 : ∀ v ∈ cs, v.oneCell' = true)
    (h : ∀ w', Bk w' g t (C.take off ++ cs ++ C.drop (off + cs.length)).toArray → Only g w w' → K (a.put o.dst (goInt (Nat.min sLen dLen))) w') : o.wp Try.prog a w K Q := by
  have hr := run_copy_bk w dT sT o.type elem g off dLen dCap A sLen sCap sz C t cs hu hs hg hn hsrc hfit h1
  unfold Oper.wp execOp
  simp only [ho, resolve, invoke, builtin, Sem.run_bind, Sem.run_pure, Result.andThen_ok, List.map_toArray, List.map_cons, List.map_nil, hd, hs', hr]
  exact h _ (setRow_heap w g C.toArray _ t _ hg) (Only.setRow w g _)
/-- append of zeros that outgrow -/
theorem run_append_zeros (w : World) (t tn ty e : TypeId) (i : TypeInfo) (z : Value) (k kn : IntKind) (ht : Try.prog.underlying t = some (.slice e)) (htn : Try.prog.underlying tn = some (.int kn)) (hi : Try.prog.info? e = some i) (hz : i.zero = some z)
    (A : Addr) (sLen sCap n : Nat) (olds : List Value) (hlo : olds.length = sLen * i.size) (holds : ∀ j v, olds[j]? = some v → w.cell? (A.add j) = some v)
    (h0 : 0 < n) (hs : 0 < i.size) (hg : sCap < sLen + n) (h63 : sLen + n ≤ 1000) (hbytes : i.bytes ≤ 1000) :
    (Builtin.append_ #[t, tn] ty #[.slice (some A) sLen sCap, .int k n]).run Try.prog w =
      .ok (.slice (some ⟨w.heap.size, 0, none⟩) (sLen + n) (grownCap w (sLen + n) sCap e)) (w.drew.alloc (.cells (olds.toArray ++ Builtin.zeroCells z.cells n ++ Builtin.zeroCells z.cells (grownCap w (sLen + n) sCap e - (sLen + n))) e)) := by
  have hn : n ≠ 0 := by omega
  have hw : IntKind.i64.wrap (n : Int) = n := by rw [IntKind.wrap_i64]; omega
  have hbb : (sLen + n) * i.bytes ≤ 1000 * 1000 := Nat.mul_le_mul h63 hbytes
  have hnb : n * i.bytes ≤ 1000 * 1000 := Nat.mul_le_mul (by omega) hbytes
  have hfit : Builtin.nextslicecap (sLen + n) sCap * i.bytes ≤ 281474976710656 := growslice_fits hg (by omega)
  have h48i : ¬ (281474976710656 < (n : Int) * (i.bytes : Int)) := by
    rw [← Int.natCast_mul]; omega
  have hneg : ¬ ((n : Int) < 0) := by omega
  have hns : ¬ (n * i.size = 0) := Nat.mul_ne_zero hn (by omega)
  have hroom : ¬ (sLen + n ≤ sCap) := by omega
  have hbig : ¬ (9223372036854775807 < ((sLen : Int) + (n : Int))) := by omega
  have h48' : ¬ (281474976710656 < Builtin.nextslicecap (sLen + n) sCap * i.bytes) := by omega
  have hf := fun w : World => run_firstCells_some (P := Try.prog) w i.size sLen A sLen sCap olds hlo
  have hf1 : (Builtin.firstCells i.size sLen (.slice (some A) sLen sCap)).run Try.prog w.drew = .ok olds.toArray w.drew := hf w.drew holds
  simp [Builtin.append_, run_underlying ht, run_underlying htn, sizeOf, typeInfo, zeroValue, hi, hz, asInt, asIntOf, hw, hn, hneg, hns, hroom, hbig, h48', h48i, Question.forced, hf1, newRow, grownCap]
theorem take_mid {A z Y C : List Value} {a b : Nat} (hA : A.length = a) (hz : z.length = b) (hC : C.take a = A) (hfit : a + b + Y.length ≤ C.length) :
    (((C.take a ++ z ++ C.drop (a + b)).take (a + b) ++ Y ++ (C.take a ++ z ++ C.drop (a + b)).drop (a + b + Y.length))).take (a + b + Y.length) = A ++ z ++ Y := by
  have h1 : (A ++ z ++ C.drop (a + b)).take (a + b) = A ++ z := by
    rw [List.take_append_of_le_length (by rw [List.length_append]; omega), List.take_of_length_le (by rw [List.length_append]; omega)]
  rw [hC, h1, List.take_append_of_le_length (by simp; omega), List.take_of_length_le (by simp; omega)]
theorem take_shift {A z Y C : List Value} {a b : Nat} (hA : A.length = a) (hz : z.length = b) (hC : C.take (a + Y.length) = A ++ Y) (hfit : a + b + Y.length ≤ C.length) :
    (((C.take (a + b) ++ Y ++ C.drop (a + b + Y.length)).take a ++ z ++ (C.take (a + b) ++ Y ++ C.drop (a + b + Y.length)).drop (a + b))).take (a + b + Y.length) = A ++ z ++ Y := by
  have hl : (C.take (a + b)).length = a + b := by rw [List.length_take]; omega
  have hA2 : C.take a = A := by
    have := congrArg (List.take a) hC
    have e : A.take a = A := List.take_of_length_le (by omega)
    rw [List.take_take, Nat.min_eq_left (by omega), List.take_append_of_le_length (by omega), e] at this
    exact this
  have h1 : (C.take (a + b) ++ Y ++ C.drop (a + b + Y.length)).take a = A := by
    rw [List.append_assoc, List.take_append_of_le_length (by omega), List.take_take, Nat.min_eq_left (by omega), hA2]
  have h2 : (C.take (a + b) ++ Y ++ C.drop (a + b + Y.length)).drop (a + b) = Y ++ C.drop (a + b + Y.length) := by
    rw [List.append_assoc, List.drop_append_of_le_length (by omega), List.drop_of_length_le (by omega), List.nil_append]
  rw [h1, h2, List.take_append, List.take_of_length_le (by simp; omega)]
  congr 1
  have h3 : a + b + Y.length - (A ++ z).length = Y.length := by simp; omega
  rw [h3, List.take_append_of_le_length (Nat.le_refl _), List.take_length]
theorem grownBy_only {g : Nat} {w w1 w2 : World} {r : Option Nat} (h : w.grownBy w1 r) (k : Only g w1 w2) (hg : r = some g ∨ w.heap.size ≤ g) : w.grownBy w2 r := by
  have hb := k.below 0 (Nat.zero_le _) w1 (Below.refl 0 w1)
  refine ⟨hb.os.trans h.os, hb.tape.trans h.tape, hb.output.trans h.output, by rw [k.size]; exact h.size, fun j hj hne => (k.other j ?_).trans (h.block j hj hne)⟩
  rintro rfl
  rcases hg with hg | hg
  · exact hne hg.symm
  · omega
theorem grownBy_ex {w w1 w2 : World} {r : Option Nat} (h : w.grownBy w1 r) (k : Ex w1 w2) : w.grownBy w2 r :=
  ⟨k.os.trans h.os, k.tape.trans h.tape, k.output.trans h.output, Nat.le_trans h.size (Below.size k), fun j hj hne => (k.block j (Nat.lt_of_lt_of_le hj h.size)).trans (h.block j hj hne)⟩
theorem Ex.grownBy {w w1 : World} (r : Option Nat) (k : Ex w w1) : w.grownBy w1 r := ⟨k.os, k.tape, k.output, Below.size k, fun j hj _ => k.block j hj⟩
end Go.Proofs.Ytmjfnpmnhehnkaa
