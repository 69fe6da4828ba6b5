/- Tf, Tg -/
import Derived.Test.YtmjfnpmnhehnkaaXah
import Derived.Lib.Overlaps
import Derived.Laws.CopyRow
namespace Go.Proofs.Ytmjfnpmnhehnkaa
open Go.RowKit
/-- where a row lies behind a step -/
def Lies (w : World) (v v' : Value) : Prop := v'.ownBlock = v.ownBlock ∨ ∀ g, v'.ownBlock = some g → w.heap.size ≤ g
theorem append_where (w : World) (t ty e : TypeId) (i : TypeInfo) (z : Value) (size bytes : Nat) (ht : Try.prog.underlying t = some (.slice e)) (hi : Try.prog.info? e = some i) (hz : i.zero = some z)
  (hsize : i.size = size) (hby : i.bytes = bytes) (B n : Nat) (v : Value) (xs : List Value) (hown : w.ownsRow B e size v n xs)
  (a : Addr) (m c : Nat) (news : List Value) (hl : news.length = m * size) (hnews : ∀ j u, news[j]? = some u → w.cell? (a.add j) = some u) (h1 : ∀ u ∈ news, u.oneCell' = true)
  (hm : 0 < m) (h63 : n + m ≤ maxLen) (hbytes : (n + m) * bytes ≤ 140737488355328) {v' : Value} {w' : World} (hr : (Builtin.append_ #[t, t] ty #[v, .slice (some a) m c]).run Try.prog w = .ok v' w') : Lies w v v' := by
 subst hsize
 subst hby
 have hsmall : n + m ≤ 9223372036854775807 := by simp only [maxLen] at h63; omega
 rcases hown.2 with ⟨rfl, rfl⟩ | ⟨g, cap, cur, rfl, hbg, hg, hnc, hcm, hcs, htake⟩
 ·have h2 := run_append_nil (P := Try.prog) w t ty e i z ht hi hz a m c news hl hnews hm (by omega) (by have hb := hbytes; simp only [Nat.zero_add] at hb; omega)
  rw [h2] at hr
  cases hr
  exact Or.inr fun g hg => by cases hg; exact Nat.le_refl _
 by_cases hroom : n + m ≤ cap
 ·have hfit : n * i.size + news.length ≤ cur.size := by rw [hl, hcs, ← Nat.add_mul]; exact Nat.mul_le_mul_right _ hroom
  have h2 := run_append_room (P := Try.prog) w t ty e i ht hi g n cap cur hg a m c news hl hnews h1 hroom hfit
  rw [h2] at hr
  cases hr
  exact Or.inl rfl
 have holds : ∀ j u, xs[j]? = some u → w.cell? ((⟨g, 0, none⟩ : Addr).add j) = some u := hown.cells (g := g) rfl
 have h2 := run_append_grow (P := Try.prog) w t ty e i z ht hi hz ⟨g, 0, none⟩ n cap xs hown.1 holds a m c news hl hnews (by omega) (by omega) (growslice_fits (by omega) hbytes)
 rw [h2] at hr
 cases hr
 exact Or.inr fun g hg => by cases hg; exact Nat.le_refl _
theorem wp_rtell {o : Oper} {a : Act} {w : World} {K : Act → World → Prop} {Q : Exit → Act → World → Prop} (s x : Operand) (t e : TypeId) (z : Value) (sz bytes : Nat)
  (hop : o.op = .call { callee := .builtin .append, args := #[s, x], argTypes := #[t, t] }) (hu : Try.prog.underlying t = some (.slice e))
  (hinfo : (Try.prog.info? e).map (fun i => (i.zero, i.size, i.bytes)) = some (some z, sz, bytes)) (hz : z.cells.size = sz) (hp : 0 < sz)
  (B n : Nat) (v : Value) (xs : List Value) (hs : a.eval s = v) (hown : w.ownsRow B e sz v n xs) (hB : B ≤ w.heap.size)
  (A : Addr) (m c : Nat) (ys : List Value) (hx : a.eval x = .slice (some A) m c) (hl : ys.length = m * sz) (hr : ∀ j u, ys[j]? = some u → w.cell? (A.add j) = some u) (h1 : ∀ u ∈ ys, u.oneCell' = true) (hm : 0 < m)
  (hN : n + m ≤ 9223372036854775807) (hby : (n + m) * bytes ≤ 140737488355328)
  (h : ∀ v' w', w'.ownsRow B e sz v' (n + m) (xs ++ ys) → w.grownBy w' v.ownBlock → Lies w v v' → K (a.put o.dst v') w') : o.wp Try.prog a w K Q := by
 obtain ⟨i0, hi0, hz0, hz1, hz2⟩ := info_parts hinfo
 obtain ⟨v', w', hrun, r1, r2, _⟩ := run_append_own (P := Try.prog) w B t o.type e i0 z sz bytes hu hi0 hz0 hz1 hz2 hz hp v n xs hown A m c ys hl hr h1 hN hby hB
 have r3 := append_where w t o.type e i0 z sz bytes hu hi0 hz0 hz1 hz2 B n v xs hown A m c ys hl hr h1 hm hN hby hrun
 unfold Oper.wp
 simp [execOp, hop, resolve, invoke, builtin, hs, hx, hrun, Result.andThen]
 exact h v' w' r1 r2 r3
/-- copy into a block -/
theorem run_copy_bk (w : World) (dT sT ty elem : TypeId) (g o dLen dCap : Nat) (A : Addr) (sLen sCap sz : Nat) (C : List Value) (t : TypeId) (cs : List Value)
  (hu : Try.prog.underlying dT = some (.slice elem)) (hs : (Try.prog.info? elem).map (·.size) = some sz) (hg : Bk w g t C.toArray) (hn : cs.length = Nat.min sLen dLen * sz)
  (hsrc : ∀ j v, cs[j]? = some v → w.cell? (A.add j) = some v) (hfit : o + cs.length ≤ C.length) (h1 : ∀ v ∈ cs, v.oneCell' = true) :
  (Builtin.copy_ #[dT, sT] ty #[.slice (some ⟨g, o, none⟩) dLen dCap, .slice (some A) sLen sCap]).run Try.prog w = .ok (goInt (Nat.min sLen dLen)) (w.setRow g (C.take o ++ cs ++ C.drop (o + cs.length)).toArray) := by
 have hl := run_loadCells_list (P := Try.prog) w A cs hsrc
 have hst := run_storeCells_at Try.prog g o t cs 0 C.toArray w hg (by simpa using hfit) h1
 simp only [Nat.add_zero] at hst
 cases hq : Try.prog.info? elem with
 | none => simp [hq] at hs
 | some i =>
  have hi : i.size = sz := by simpa [hq] using hs
  simp [Builtin.copy_, run_underlying hu, Builtin.lenOf, Builtin.firstCells, sizeOf, typeInfo, hq, hi, ← hn, hl, hst]
theorem Only.setRow (w : World) (g : Nat) (cs : Array Value) : Only g w (w.setRow g cs) := by
 refine ⟨fun B hB a ha => ⟨ha.os, ha.tape, ha.output, by rw [show (w.setRow g cs).heap.size = w.heap.size by simp [World.setRow]]; exact ha.size, fun k hk => (setRow_other w g k cs (by omega)).trans (ha.block k hk)⟩, fun h hne => setRow_other w g h cs hne, by simp [World.setRow]⟩
theorem wp_copy_bk {o : Oper} {a : Act} {w : World} {K : Act → World → Prop} {Q : Exit → Act → World → Prop} (d s : Operand) (dT sT elem : TypeId) (g off dLen dCap : Nat) (A : Addr) (sLen sCap sz : Nat) (C : List Value) (t : TypeId) (cs : List Value)
  (ho : o.op = .call { callee := .builtin .copy, args := #[d, s], argTypes := #[dT, sT] }) (hd : a.eval d = .slice (some ⟨g, off, none⟩) dLen dCap) (hs' : a.eval s = .slice (some A) sLen sCap)
  (hu : Try.prog.underlying dT = some (.slice elem)) (hs : (Try.prog.info? elem).map (·.size) = some sz) (hg : Bk w g t C.toArray) (hn : cs.length = Nat.min sLen dLen * sz)
  (hsrc : ∀ j v, cs[j]? = some v → w.cell? (A.add j) = some v) (hfit : off + cs.length ≤ C.length) (h1 : ∀ v ∈ cs, v.oneCell' = true)
  (h : ∀ w', Bk w' g t (C.take off ++ cs ++ C.drop (off + cs.length)).toArray → Only g w w' → K (a.put o.dst (goInt (Nat.min sLen dLen))) w') : o.wp Try.prog a w K Q := by
 have hr := run_copy_bk w dT sT o.type elem g off dLen dCap A sLen sCap sz C t cs hu hs hg hn hsrc hfit h1
 unfold Oper.wp execOp
 simp only [ho, resolve, invoke, builtin, Sem.run_bind, Sem.run_pure, Result.andThen_ok, List.map_toArray, List.map_cons, List.map_nil, hd, hs', hr]
 exact h _ (setRow_heap w g C.toArray _ t _ hg) (Only.setRow w g _)
/-- append of zeros that outgrow -/
theorem run_append_zeros (w : World) (t tn ty e : TypeId) (i : TypeInfo) (z : Value) (k kn : IntKind) (ht : Try.prog.underlying t = some (.slice e)) (htn : Try.prog.underlying tn = some (.int kn)) (hi : Try.prog.info? e = some i) (hz : i.zero = some z)
  (A : Addr) (sLen sCap n : Nat) (olds : List Value) (hlo : olds.length = sLen * i.size) (holds : ∀ j v, olds[j]? = some v → w.cell? (A.add j) = some v)
  (h0 : 0 < n) (hs : 0 < i.size) (hg : sCap < sLen + n) (h63 : sLen + n ≤ 1000) (hbytes : i.bytes ≤ 1000) :
  (Builtin.append_ #[t, tn] ty #[.slice (some A) sLen sCap, .int k n]).run Try.prog w =
   .ok (.slice (some ⟨w.heap.size, 0, none⟩) (sLen + n) (grownCap w (sLen + n) sCap e)) (w.drew.alloc (.cells (olds.toArray ++ Builtin.zeroCells z.cells n ++ Builtin.zeroCells z.cells (grownCap w (sLen + n) sCap e - (sLen + n))) e)) := by
 have hn : n ≠ 0 := by omega
 have hw : IntKind.i64.wrap (n : Int) = n := by rw [IntKind.wrap_i64]; omega
 have hbb : (sLen + n) * i.bytes ≤ 1000 * 1000 := Nat.mul_le_mul h63 hbytes
 have hnb : n * i.bytes ≤ 1000 * 1000 := Nat.mul_le_mul (by omega) hbytes
 have hfit : Builtin.nextslicecap (sLen + n) sCap * i.bytes ≤ 281474976710656 := growslice_fits hg (by omega)
 have h48i : ¬ (281474976710656 < (n : Int) * (i.bytes : Int)) := by
  rw [← Int.natCast_mul]; omega
 have hneg : ¬ ((n : Int) < 0) := by omega
 have hns : ¬ (n * i.size = 0) := Nat.mul_ne_zero hn (by omega)
 have hroom : ¬ (sLen + n ≤ sCap) := by omega
 have hbig : ¬ (9223372036854775807 < ((sLen : Int) + (n : Int))) := by omega
 have h48' : ¬ (281474976710656 < Builtin.nextslicecap (sLen + n) sCap * i.bytes) := by omega
 have hf := fun w : World => run_firstCells_some (P := Try.prog) w i.size sLen A sLen sCap olds hlo
 have hf1 : (Builtin.firstCells i.size sLen (.slice (some A) sLen sCap)).run Try.prog w.drew = .ok olds.toArray w.drew := hf w.drew holds
 simp [Builtin.append_, run_underlying ht, run_underlying htn, sizeOf, typeInfo, zeroValue, hi, hz, asInt, asIntOf, hw, hn, hneg, hns, hroom, hbig, h48', h48i, Question.forced, hf1, newRow, grownCap]
theorem take_mid {A z Y C : List Value} {a b : Nat} (hA : A.length = a) (hz : z.length = b) (hC : C.take a = A) (hfit : a + b + Y.length ≤ C.length) :
  (((C.take a ++ z ++ C.drop (a + b)).take (a + b) ++ Y ++ (C.take a ++ z ++ C.drop (a + b)).drop (a + b + Y.length))).take (a + b + Y.length) = A ++ z ++ Y := by
 have h1 : (A ++ z ++ C.drop (a + b)).take (a + b) = A ++ z := by
  rw [List.take_append_of_le_length (by rw [List.length_append]; omega), List.take_of_length_le (by rw [List.length_append]; omega)]
 rw [hC, h1, List.take_append_of_le_length (by simp; omega), List.take_of_length_le (by simp; omega)]
theorem take_shift {A z Y C : List Value} {a b : Nat} (hA : A.length = a) (hz : z.length = b) (hC : C.take (a + Y.length) = A ++ Y) (hfit : a + b + Y.length ≤ C.length) :
  (((C.take (a + b) ++ Y ++ C.drop (a + b + Y.length)).take a ++ z ++ (C.take (a + b) ++ Y ++ C.drop (a + b + Y.length)).drop (a + b))).take (a + b + Y.length) = A ++ z ++ Y := by
 have hl : (C.take (a + b)).length = a + b := by rw [List.length_take]; omega
 have hA2 : C.take a = A := by
  have := congrArg (List.take a) hC
  have e : A.take a = A := List.take_of_length_le (by omega)
  rw [List.take_take, Nat.min_eq_left (by omega), List.take_append_of_le_length (by omega), e] at this
  exact this
 have h1 : (C.take (a + b) ++ Y ++ C.drop (a + b + Y.length)).take a = A := by
  rw [List.append_assoc, List.take_append_of_le_length (by omega), List.take_take, Nat.min_eq_left (by omega), hA2]
 have h2 : (C.take (a + b) ++ Y ++ C.drop (a + b + Y.length)).drop (a + b) = Y ++ C.drop (a + b + Y.length) := by
  rw [List.append_assoc, List.drop_append_of_le_length (by omega), List.drop_of_length_le (by omega), List.nil_append]
 rw [h1, h2, List.take_append, List.take_of_length_le (by simp; omega)]
 congr 1
 have h3 : a + b + Y.length - (A ++ z).length = Y.length := by simp; omega
 rw [h3, List.take_append_of_le_length (Nat.le_refl _), List.take_length]
theorem grownBy_only {g : Nat} {w w1 w2 : World} {r : Option Nat} (h : w.grownBy w1 r) (k : Only g w1 w2) (hg : r = some g ∨ w.heap.size ≤ g) : w.grownBy w2 r := by
 have hb := k.below 0 (Nat.zero_le _) w1 (Below.refl 0 w1)
 refine ⟨hb.os.trans h.os, hb.tape.trans h.tape, hb.output.trans h.output, by rw [k.size]; exact h.size, fun j hj hne => (k.other j ?_).trans (h.block j hj hne)⟩
 rintro rfl
 rcases hg with hg | hg
 ·exact hne hg.symm
 omega
theorem grownBy_ex {w w1 w2 : World} {r : Option Nat} (h : w.grownBy w1 r) (k : Ex w1 w2) : w.grownBy w2 r :=
 ⟨k.os.trans h.os, k.tape.trans h.tape, k.output.trans h.output, Nat.le_trans h.size (Below.size k), fun j hj hne => (k.block j (Nat.lt_of_lt_of_le hj h.size)).trans (h.block j hj hne)⟩
theorem Ex.grownBy {w w1 : World} (r : Option Nat) (k : Ex w w1) : w.grownBy w1 r := ⟨k.os, k.tape, k.output, Below.size k, fun j hj _ => k.block j hj⟩
end Go.Proofs.Ytmjfnpmnhehnkaa
namespace Go.Proofs.Ytmjfnpmnhehnkaa
open Go.RowKit
theorem Try.slVS : Try.prog.underlying 37 = some (.slice (Try.prog.elem 37)) := by kernel_rfl
theorem Try.szVS (w : World) : (sizeOf (Try.prog.elem 37)).run Try.prog w = .ok 42 w := by kernel_rfl
section
variable {P : Program} {ops : Array Oper} {rest : List Oper} {d : Option Tmp} {t2 : TypeId} {pos : String} {af : Array Edge} {g : Option (Nat × Bool)} {a : Act} {w : World} {Q : Exit → Act → World → Prop}
theorem stop_slice {t : TypeId} {x : Operand} {l h m : Option Operand} (k : Stop (wpList P ops Q ({ dst := d, op := .slice t x l h m, type := t2, pos := pos, after := af, guard := g } :: rest) a w)) : wpList P ops Q ({ dst := d, op := .slice t x l h m, type := t2, pos := pos, after := af, guard := g } :: rest) a w := k.go
theorem stop_copy {x y : Operand} {ts : Array TypeId} (k : Stop (wpList P ops Q ({ dst := d, op := .call { callee := .builtin .copy, args := #[x, y], argTypes := ts }, type := t2, pos := pos, after := af, guard := g } :: rest) a w)) : wpList P ops Q ({ dst := d, op := .call { callee := .builtin .copy, args := #[x, y], argTypes := ts }, type := t2, pos := pos, after := af, guard := g } :: rest) a w := k.go
end
theorem sliced_at (g n cap k : Nat) (h : k < cap) : sliced (some ⟨g, 0, none⟩) k n cap 42 = .slice (some ⟨g, k * 42, none⟩) (n - k) (cap - k) := by
 unfold sliced
 rw [if_neg (by omega), Option.map_some, Addr.add_lit, Nat.zero_add]
theorem sliced_0 (g n cap : Nat) : sliced (some ⟨g, 0, none⟩) 0 n cap 42 = .slice (some ⟨g, 0, none⟩) n cap := by
 unfold sliced
 rw [Option.map_some, Nat.zero_mul, Addr.add_lit, Nat.zero_add, Nat.sub_zero, Nat.sub_zero]
 split <;> rfl
set_option maxRecDepth 100000 in
/-- append of zeros, as a step -/
theorem wp_zeros {o : Oper} {a : Act} {w : World} {K : Act → World → Prop} {Q : Exit → Act → World → Prop} (s x : Operand) (ho : o.op = .call { callee := .builtin .append, args := #[s, x], argTypes := #[37, 3] })
  (g sLen sCap n : Nat) (m : Int) (hs : a.eval s = .slice (some ⟨g, 0, none⟩) sLen sCap) (hx : a.eval x = .int .i64 m) (hm : m = (n : Int)) (olds : List Value) (hlo : olds.length = sLen * 42) (holds : ∀ j v, olds[j]? = some v → w.cell? ((⟨g, 0, none⟩ : Addr).add j) = some v)
  (h0 : 0 < n) (hg : sCap < sLen + n) (h63 : sLen + n ≤ 1000)
  (hk : ∀ (cap : Nat) (C : List Value) (w' : World), Bk w' w.heap.size 36 C.toArray → C.length = cap * 42 → sLen + n ≤ cap → cap ≤ maxLen → C.take (sLen * 42) = olds → Ex w w' → K (a.put o.dst (.slice (some ⟨w.heap.size, 0, none⟩) (sLen + n) cap)) w') : o.wp Try.prog a w K Q := by
 obtain ⟨i0, hi0, hz0, hz1, hz2⟩ := info_parts Try.infoVt
 subst hm
 have hr := run_append_zeros w 37 3 o.type 36 i0 zeroVt.V .i64 .i64 Try.underlying37 Try.underlying3 hi0 hz0 ⟨g, 0, none⟩ sLen sCap n olds (by rw [hz1]; exact hlo) holds h0 (by rw [hz1]; decide) hg h63 (by rw [hz2]; decide)
 have hge := grownCap_ge w (sLen + n) sCap 36
 have hcm := grownCap_le_maxLen w (sLen + n) sCap 36 (by unfold maxLen; omega)
 generalize grownCap w (sLen + n) sCap 36 = cap at *
 refine Lib.wp_append_run w s x 37 3 ho _ _ hs hx _ _ hr ?_
 have hzs : zeroVt.V.cells.size = 42 := rfl
 refine hk cap (olds ++ (Builtin.zeroCells zeroVt.V.cells n).toList ++ (Builtin.zeroCells zeroVt.V.cells (cap - (sLen + n))).toList) _ ?_ ?_ hge hcm ?_ ?_
 ·have e : (olds ++ (Builtin.zeroCells zeroVt.V.cells n).toList ++ (Builtin.zeroCells zeroVt.V.cells (cap - (sLen + n))).toList).toArray = olds.toArray ++ Builtin.zeroCells zeroVt.V.cells n ++ Builtin.zeroCells zeroVt.V.cells (cap - (sLen + n)) := by
   simp
  rw [e]
  exact Bk.new rfl _ _
 ·simp only [List.length_append, Array.length_toList, size_zeroCells, hzs, hlo, ← Nat.add_mul]
  congr 1; omega
 ·rw [List.append_assoc, ← hlo]; exact List.take_left
 ·exact ((Below.refl _ _).drew).alloc (Nat.le_refl _) _
/-- what comes of a block that a copy turns, amid a region -/
def CpI (base : World) (F : World → Prop) (b : Bool) (w : World) : Prop := if b = true then F w else w = base
def InsPost (xs zs : List Value) (B i n : Nat) (v : Value) (w : World) (e : Ending) (w' : World) : Prop :=
 ∃ v', e = .returned v' ∧ w'.ownsRow B 36 42 v' (n + 1) (xs.take (i * 42) ++ zs ++ xs.drop (i * 42)) ∧ w.grownBy w' v.ownBlock ∧ Lies w v v'
set_option maxHeartbeats 4000000 in
set_option maxRecDepth 100000 in
theorem ins_any (B n i : Nat) (v : Value) (xs zs : List Value) (b : Nat) (w : World) (hin : i ≤ n) (hn : n ≤ 3) (hown : w.ownsRow B 36 42 v n xs) (hB : B ≤ w.heap.size) (h1 : ∀ u ∈ xs, u.oneCell' = true) (hz1 : ∀ u ∈ zs, u.oneCell' = true) (hzl : zs.length = 42) (hb : Bk w b 36 zs.toArray) (hne : v.ownBlock ≠ some b) :
  Calls Try.prog 102 #[v, .int .i64 i, .slice (some ⟨b, 0, none⟩) 1 1] w (InsPost xs zs B i n v w) := by
 have HOWN := Hi hown
 have HB0 := Hi hB
 have H1 := Hi h1
 have HZ1 := Hi hz1
 have HZL := Hi hzl
 have HBK := Hi hb
 have HNE := Hi hne
 obtain ⟨ad, cap, rfl, hnil, hnc, hcm, hrd⟩ := own_rd hown
 have HRD := Hi hrd
 have hin0 : (0 : Int) ≤ (i : Int) := by omega
 have HRB : Hid (∀ j u, zs[j]? = some u → w.cell? ((⟨b, 0, none⟩ : Addr).add j) = some u) := Hi (fun j u hu => by rw [Addr.add_lit, Nat.zero_add, hb.cell]; simpa using hu)
 clear hown hB h1 hz1 hzl hb hne hnil hrd
 by_cases hi : i = n
 ·have hii : (i : Int) = (n : Int) := by omega
  go_enter Try.func102, Try.ntmps102
  go_wp2_with (first | ((with_reducible refine so4 [36, 1000+36, 32, 1000+32, 4000+36] ?_ ?_); (focus rfl)) | (with_reducible refine stop_bs (t := 37) ?_) | (with_reducible refine stop_app ?_) | (with_reducible refine stop_slice ?_) | (with_reducible refine stop_copy ?_))
  refine at9 (by go_simp) fun K0 hK => wp_sl_l 37 _ _ rfl Try.slVS 42 Try.szVS ad n cap i rfl rfl hin (hK _ _ ?_)
  clear hK
  generalize sliced ad i n cap 42 = y12
  go_wp2_with (first | ((with_reducible refine so4 [36, 1000+36, 32, 1000+32, 4000+36] ?_ ?_); (focus rfl)) | (with_reducible refine stop_bs (t := 37) ?_) | (with_reducible refine stop_app ?_) | (with_reducible refine stop_slice ?_) | (with_reducible refine stop_copy ?_))
  refine at9 (by go_simp) fun K0 hK => wp_rtell _ _ 37 36 zeroVt.V 42 96 rfl Try.underlying37 Try.infoVt rfl (by decide) B n _ xs rfl HOWN.out HB0.out ⟨b, 0, none⟩ 1 1 zs rfl (by rw [HZL.out]) HRB.out HZ1.out (by decide) (by omega) (by omega) (fun v' w' r1 r2 r3 => hK _ _ ?_)
  clear hK
  have HR1 : Hid (w'.ownsRow B 36 42 v' (n + 1) (xs.take (i * 42) ++ zs ++ xs.drop (i * 42))) := Hi (by rw [hi, List.take_of_length_le (by rw [HOWN.out.1]; exact Nat.le_refl _), List.drop_of_length_le (by rw [HOWN.out.1]; exact Nat.le_refl _), List.append_nil]; exact r1)
  have HR2 := Hi r2
  have HR3 := Hi r3
  clear r1 r2 r3 hi
  go_wp2_with fail
  go_ret
  exact ⟨v', rfl, HR1.out, HR2.out, HR3.out⟩
 obtain ⟨hxl, ⟨hv, h0⟩ | ⟨g, cap2, cur, hv, hgb, hgk, _, hcm2, hcs, htk⟩⟩ := HOWN.out
 ·omega
 cases hv
 have hii : ¬ (i : Int) = (n : Int) := by omega
 have GK : Hid (Bk w g 36 cur.toList.toArray) := Hi (by rw [Array.toArray_toList]; exact hgk)
 obtain ⟨C0, hC0⟩ : ∃ C, C = cur.toList := ⟨_, rfl⟩
 rw [← hC0] at GK htk
 have HCL : Hid (C0.length = cap * 42) := Hi (by rw [hC0, Array.length_toList]; exact hcs)
 have HTK := Hi htk
 have HXL := Hi hxl
 have HGB := Hi hgb
 have HGN : Hid (g ≠ b) := Hi (fun e => HNE.out (by rw [e]; rfl))
 clear hgk hC0 hcs htk hxl hgb hcm2
 clear cur
 by_cases hc : n + 1 ≤ cap
 ·have hci : ¬ (cap : Int) < (n : Int) + 1 := by omega
  go_enter Try.func102, Try.ntmps102
  go_wp2_with (first | ((with_reducible refine so4 [36, 1000+36, 32, 1000+32, 4000+36] ?_ ?_); (focus rfl)) | (with_reducible refine stop_bs (t := 37) ?_) | (with_reducible refine stop_app ?_) | (with_reducible refine stop_slice ?_) | (with_reducible refine stop_copy ?_))
  refine at9 (by go_simp) fun K0 hK => wp_sl_l 37 _ _ rfl Try.slVS 42 Try.szVS _ n cap i rfl rfl hin (hK _ _ ?_)
  clear hK
  generalize sliced _ i n cap 42 = y12
  go_wp2_with (first | ((with_reducible refine so4 [36, 1000+36, 32, 1000+32, 4000+36] ?_ ?_); (focus rfl)) | (with_reducible refine stop_bs (t := 37) ?_) | (with_reducible refine stop_app ?_) | (with_reducible refine stop_slice ?_) | (with_reducible refine stop_copy ?_))
  (first | rw [show (Value.int .i64 ((n : Int) + 1)) = .int .i64 ((n + 1 : Nat) : Int) from by rw [Int.natCast_add]; rfl] | skip)
  refine at9 (by go_simp) fun K0 hK => wp_sl_h 37 _ _ rfl Try.slVS 42 Try.szVS _ n cap (n + 1) rfl rfl hc (hK _ _ ?_)
  clear hK
  rw [sliced_0]
  go_wp2_with (first | ((with_reducible refine so4 [36, 1000+36, 32, 1000+32, 4000+36] ?_ ?_); (focus rfl)) | (with_reducible refine stop_bs (t := 37) ?_) | (with_reducible refine stop_app ?_) | (with_reducible refine stop_slice ?_) | (with_reducible refine stop_copy ?_))
  (first | rw [show (Value.int .i64 ((i : Int) + 1)) = .int .i64 ((i + 1 : Nat) : Int) from by rw [Int.natCast_add]; rfl] | skip)
  refine at9 (by go_simp) fun K0 hK => wp_sl_l 37 _ _ rfl Try.slVS 42 Try.szVS _ (n + 1) cap (i + 1) rfl rfl (by omega) (hK _ _ ?_)
  clear hK
  rw [sliced_at g (n + 1) cap (i + 1) (by omega)]
  go_wp2_with (first | ((with_reducible refine so4 [36, 1000+36, 32, 1000+32, 4000+36] ?_ ?_); (focus rfl)) | (with_reducible refine stop_bs (t := 37) ?_) | (with_reducible refine stop_app ?_) | (with_reducible refine stop_slice ?_) | (with_reducible refine stop_copy ?_))
  have hov := Lib.run_overlaps_apart (P := Try.prog) w 37 4 36 Try.underlying37 42 (fun w => by kernel_rfl) ⟨b, 0, none⟩ ⟨g, (i + 1) * 42, none⟩ 1 1 (n - i) (cap - (i + 1)) (fun e => HGN.out e.symm) 36 36 42 (cap * 42) (by have h := HBK.out; unfold Bk at h; simp only [World.shape?, h, List.size_toArray, HZL.out]) (by have h := GK.out; unfold Bk at h; simp only [World.shape?, h, List.size_toArray, HCL.out]) (by omega) (by have h := HBK.out; unfold Bk at h; simp [World.frozen?, h]) (by have h := HBK.out; unfold Bk at h; simp [World.frozen?, h])
  rw [run_callFunc_extern Try.func132 (by kernel_rfl) (by kernel_rfl) (by kernel_rfl) (e := Extern.SlicesOverlaps.overlaps #[37, 37] #[4]) (by kernel_rfl), hov]
  simp only [Result.andThen]
  rw [Oper.upon_value]
  clear hov
  go_wp2_with (first | ((with_reducible refine so4 [36, 1000+36, 32, 1000+32, 4000+36] ?_ ?_); (focus rfl)) | (with_reducible refine stop_bs (t := 37) ?_) | (with_reducible refine stop_app ?_) | (with_reducible refine stop_slice ?_) | (with_reducible refine stop_copy ?_))
  obtain ⟨V0, hV⟩ : ∃ V0 : List Value, V0 = [.slice (some ⟨g, 0, none⟩) (n + 1) (cap), .int .i64 ((i : Nat) : Int), .int .i64 ((1 : Nat) : Int), .int .i64 ((i + 1 : Nat) : Int), .slice (some ⟨g, (i + 1) * 42, none⟩) (n + 1 - (i + 1)) (cap - (i + 1)), .slice (some ⟨g, 0, none⟩) (n + 1) (cap), .int .i64 ((i : Nat) : Int), .slice (some ⟨g, i * 42, none⟩) (n + 1 - i) (cap - i), .int .i64 ((n - i : Nat) : Int)] := ⟨_, rfl⟩
  refine wp_region_val (fun i => V0.getD i undef) (fun l => CpI w.drew (fun w9 => Bk w9 g 36 (C0.take ((i + 1) * 42) ++ xs.drop (i * 42) ++ C0.drop ((i + 1) * 42 + (xs.drop (i * 42)).length)).toArray ∧ w.grownBy w9 (some g)) (l.getD 8 false)) (by kernel_rfl) (by kernel_rfl) (by kernel_rfl) (fitB_spec (by kernel_rfl)) ?_ ?_ ?_
  ·intro l h0
   rw [h0]
   show CpI _ _ false _
   unfold CpI; rw [if_neg (by decide)]
  ·intro i o ho
   have hi : i < 9 := (Array.getElem?_eq_some_iff.1 ho).1
   have hi' : i = 0 ∨ i = 1 ∨ i = 2 ∨ i = 3 ∨ i = 4 ∨ i = 5 ∨ i = 6 ∨ i = 7 ∨ i = 8 := by omega
   clear hi
   rcases hi' with rfl | rfl | rfl | rfl | rfl | rfl | rfl | rfl | rfl
   all_goals (simp only [List.getElem?_toArray, List.getElem?_cons_zero, List.getElem?_cons_succ, Option.some.injEq] at ho; subst ho hV; intro listed a w2 hI hsz hls hun hdep hout)
   ·rw [if_pos (by rfl)]
    intro K hK
    have q0 := hout 0 (outB_spec (by kernel_rfl))
    clear hsz hdep hout hun
    go_simp
    exact hK _ (by show CpI _ _ _ _; rw [bit_set (by decide)]; exact hI)
   ·rw [if_pos (by rfl)]
    intro K hK
    have q1 := hout 1 (outB_spec (by kernel_rfl))
    clear hsz hdep hout hun
    go_simp
    exact hK _ (by show CpI _ _ _ _; rw [bit_set (by decide)]; exact hI)
   ·rw [if_pos (by rfl)]
    intro K hK
    have q7 := hout 7 (outB_spec (by kernel_rfl))
    clear hsz hdep hout hun
    go_simp
    exact hK _ (by show CpI _ _ _ _; rw [bit_set (by decide)]; exact hI)
   ·rw [if_pos (by rfl)]
    intro K hK
    have q70 := (hdep ⟨1, .data⟩ (by simp) rfl).2 _ rfl _ rfl
    have q70 : a.tmps.getD 70 undef = .int .i64 ((i : Nat) : Int) := q70
    have q71 := (hdep ⟨2, .data⟩ (by simp) rfl).2 _ rfl _ rfl
    have q71 : a.tmps.getD 71 undef = .int .i64 ((1 : Nat) : Int) := q71
    have e1 : IntKind.i64.wrap ((i : Int) + 1) = ((i + 1 : Nat) : Int) := by rw [IntKind.wrap_i64]; omega
    clear hsz hdep hout hun
    go_simp
    exact hK _ (by show CpI _ _ _ _; rw [bit_set (by decide)]; exact hI)
   ·rw [if_pos (by rfl)]
    intro K hK
    have q69 := (hdep ⟨0, .data⟩ (by simp) rfl).2 _ rfl _ rfl
    have q69 : a.tmps.getD 69 undef = .slice (some ⟨g, 0, none⟩) (n + 1) (cap) := q69
    have q72 := (hdep ⟨3, .data⟩ (by simp) rfl).2 _ rfl _ rfl
    have q72 : a.tmps.getD 72 undef = .int .i64 ((i + 1 : Nat) : Int) := q72
    refine wp_sl_l 37 _ _ rfl Try.slVS 42 Try.szVS _ (n + 1) cap (i + 1) q69 q72 (by omega) ?_
    rw [sliced_at g (n + 1) cap (i + 1) (by omega)]
    exact hK _ (by show CpI _ _ _ _; rw [bit_set (by decide)]; exact hI)
   ·rw [if_pos (by rfl)]
    intro K hK
    have q0 := hout 0 (outB_spec (by kernel_rfl))
    clear hsz hdep hout hun
    go_simp
    exact hK _ (by show CpI _ _ _ _; rw [bit_set (by decide)]; exact hI)
   ·rw [if_pos (by rfl)]
    intro K hK
    have q1 := hout 1 (outB_spec (by kernel_rfl))
    clear hsz hdep hout hun
    go_simp
    exact hK _ (by show CpI _ _ _ _; rw [bit_set (by decide)]; exact hI)
   ·rw [if_pos (by rfl)]
    intro K hK
    have q74 := (hdep ⟨5, .data⟩ (by simp) rfl).2 _ rfl _ rfl
    have q74 : a.tmps.getD 74 undef = .slice (some ⟨g, 0, none⟩) (n + 1) (cap) := q74
    have q75 := (hdep ⟨6, .data⟩ (by simp) rfl).2 _ rfl _ rfl
    have q75 : a.tmps.getD 75 undef = .int .i64 ((i : Nat) : Int) := q75
    refine wp_sl_l 37 _ _ rfl Try.slVS 42 Try.szVS _ (n + 1) cap (i) q74 q75 (by omega) ?_
    rw [sliced_at g (n + 1) cap (i) (by omega)]
    exact hK _ (by show CpI _ _ _ _; rw [bit_set (by decide)]; exact hI)
   rw [if_pos (by rfl)]
   intro K hK
   have q73 := (hdep ⟨4, .data⟩ (by simp) rfl).2 _ rfl _ rfl
   have q73 : a.tmps.getD 73 undef = .slice (some ⟨g, (i + 1) * 42, none⟩) (n + 1 - (i + 1)) (cap - (i + 1)) := q73
   have q76 := (hdep ⟨7, .data⟩ (by simp) rfl).2 _ rfl _ rfl
   have q76 : a.tmps.getD 76 undef = .slice (some ⟨g, i * 42, none⟩) (n + 1 - i) (cap - i) := q76
   have hw2 : w2 = w.drew := by
    have h : CpI _ _ (listed.getD 8 false) w2 := hI
    rw [hun] at h; unfold CpI at h; rw [if_neg (by decide)] at h; exact h
   subst hw2
   refine wp_copy_bk _ _ 37 37 36 g ((i + 1) * 42) (n + 1 - (i + 1)) (cap - (i + 1)) ⟨g, i * 42, none⟩ (n + 1 - i) (cap - i) 42 C0 36 (xs.drop (i * 42)) rfl q73 q76 Try.underlying37 Try.sizeVt (GK.out.ext (Below.refl _ _).drew) ?_ (fun j u hu => by rw [Addr.add_lit]; exact (Below.cell (p := ⟨g, i * 42 + j, none⟩) (show Ex w w.drew from (Below.refl _ _).drew) GK.out.lt).trans (by rw [GK.out.cell]; rw [List.getElem?_toArray]; rw [← HTK.out, List.getElem?_drop, List.getElem?_take] at hu; split at hu; exact hu; cases hu)) ?_ (fun u hu => H1.out u (List.mem_of_mem_drop hu)) (fun w9 hd ho => ?_)
   ·rw [List.length_drop, HXL.out, ← Nat.sub_mul]; congr 1; simp only [Nat.min_def]; split <;> omega
   ·rw [List.length_drop, HXL.out, ← Nat.sub_mul, HCL.out]; rw [← Nat.add_mul]; exact Nat.mul_le_mul_right _ (by omega)
   rw [show Nat.min (n + 1 - i) (n + 1 - (i + 1)) = n - i from by simp only [Nat.min_def]; split <;> omega]
   refine hK _ ?_
   show CpI _ _ _ _
   rw [bit_new (by rw [hls]; decide)]
   unfold CpI; rw [if_pos rfl]
   exact ⟨hd, grownBy_only (Ex.grownBy _ (show Ex w w.drew from (Below.refl _ _).drew)) ho (Or.inl rfl)⟩
  intro listed w3 hall hI
  rw [hall 8 (by simp)] at hI
  unfold CpI at hI
  rw [if_pos rfl] at hI
  subst hV
  simp only [putAll, List.getD_cons_zero, List.getD_cons_succ, Act.put, List.setIfInBounds_toArray, List.set_cons_zero, List.set_cons_succ]
  have HF := Hi hI
  clear hI hall
  go_wp2_with (first | ((with_reducible refine so4 [36, 1000+36, 32, 1000+32, 4000+36] ?_ ?_); (focus rfl)) | (with_reducible refine stop_bs (t := 37) ?_) | (with_reducible refine stop_app ?_) | (with_reducible refine stop_slice ?_) | (with_reducible refine stop_copy ?_))
  refine at9 (by go_simp) fun K0 hK => wp_sl_l 37 _ _ rfl Try.slVS 42 Try.szVS _ (n + 1) cap i rfl rfl (by omega) (hK _ _ ?_)
  clear hK
  rw [sliced_at g (n + 1) cap i (by omega)]
  go_wp2_with (first | ((with_reducible refine so4 [36, 1000+36, 32, 1000+32, 4000+36] ?_ ?_); (focus rfl)) | (with_reducible refine stop_bs (t := 37) ?_) | (with_reducible refine stop_app ?_) | (with_reducible refine stop_slice ?_) | (with_reducible refine stop_copy ?_))
  have hbk3 : Bk w3 b 36 zs.toArray := (HF.out.2.block b HBK.out.lt (fun e => HGN.out (by cases e; rfl))).trans HBK.out
  refine at9 (by go_simp) fun K0 hK => wp_copy_bk _ _ 37 37 36 g (i * 42) (n + 1 - i) (cap - i) ⟨b, 0, none⟩ 1 1 42 (C0.take ((i + 1) * 42) ++ xs.drop (i * 42) ++ C0.drop ((i + 1) * 42 + (xs.drop (i * 42)).length)) 36 zs rfl rfl rfl Try.underlying37 Try.sizeVt HF.out.1 (by rw [HZL.out, show Nat.min 1 (n + 1 - i) = 1 from by simp only [Nat.min_def]; split <;> omega]) (fun j u hu => by rw [Addr.add_lit, Nat.zero_add, hbk3.cell]; simpa using hu) (by simp only [List.length_append, List.length_take, List.length_drop, HZL.out, HCL.out, HXL.out]; omega) HZ1.out (fun w4 hd ho => hK _ _ ?_)
  clear hK
  have HRES : Hid (InsPost xs zs B i n (.slice (some ⟨g, 0, none⟩) n cap) w (.returned (.slice (some ⟨g, 0, none⟩) (n + 1) cap)) w4) := Hi (by
   have hA : (xs.take (i * 42)).length = i * 42 := by rw [List.length_take, HXL.out]; omega
   have hY : (xs.drop (i * 42)).length = (n - i) * 42 := by rw [List.length_drop, HXL.out, Nat.sub_mul]
   have h42 : (i + 1) * 42 = i * 42 + 42 := Nat.succ_mul i 42
   have hn42 : (n - i) * 42 + i * 42 = n * 42 := by rw [← Nat.add_mul]; congr 1; omega
   have hc42 : (n + 1) * 42 ≤ cap * 42 := Nat.mul_le_mul_right _ hc
   have hsh := take_shift (A := xs.take (i * 42)) (z := zs) (Y := xs.drop (i * 42)) (C := C0) hA HZL.out (by rw [List.take_append_drop, hY, ← HTK.out]; congr 1; omega) (by rw [hY, HCL.out]; omega)
   refine ⟨_, rfl, ⟨by simp only [List.length_append, hA, hY, HZL.out]; omega, Or.inr ⟨g, cap, _, rfl, HGB.out, hd, hc, by simpa [maxLen] using hcm, ?_, ?_⟩⟩, grownBy_only HF.out.2 ho (Or.inl rfl), Or.inl rfl⟩
   ·rw [h42, HZL.out]
    simp only [List.size_toArray, List.length_append, List.length_take, List.length_drop, HCL.out, HZL.out, hY]
    omega
   ·rw [h42, HZL.out]
    rw [show (n + 1) * 42 = i * 42 + 42 + (xs.drop (i * 42)).length from by rw [hY]; omega]
    exact hsh)
  clear hd ho hbk3 HF
  go_wp2_with fail
  go_ret
  exact HRES.out
 have hci : (cap : Int) < (n : Int) + 1 := by omega
 go_enter Try.func102, Try.ntmps102
 go_wp2_with (first | ((with_reducible refine so4 [36, 1000+36, 32, 1000+32, 4000+36] ?_ ?_); (focus rfl)) | (with_reducible refine stop_bs (t := 37) ?_) | (with_reducible refine stop_app ?_) | (with_reducible refine stop_slice ?_) | (with_reducible refine stop_copy ?_))
 refine at9 (by go_simp) fun K0 hK => wp_sl_l 37 _ _ rfl Try.slVS 42 Try.szVS _ n cap i rfl rfl hin (hK _ _ ?_)
 clear hK
 generalize sliced _ i n cap 42 = y12
 go_wp2_with (first | ((with_reducible refine so4 [36, 1000+36, 32, 1000+32, 4000+36] ?_ ?_); (focus rfl)) | (with_reducible refine stop_bs (t := 37) ?_) | (with_reducible refine stop_app ?_) | (with_reducible refine stop_slice ?_) | (with_reducible refine stop_copy ?_))
 refine at9 (by go_simp) fun K0 hK => wp_sl_h 37 _ _ rfl Try.slVS 42 Try.szVS _ n cap i rfl rfl (by omega) (hK _ _ ?_)
 clear hK
 rw [sliced_0]
 go_wp2_with (first | ((with_reducible refine so4 [36, 1000+36, 32, 1000+32, 4000+36] ?_ ?_); (focus rfl)) | (with_reducible refine stop_bs (t := 37) ?_) | (with_reducible refine stop_app ?_) | (with_reducible refine stop_slice ?_) | (with_reducible refine stop_copy ?_))
 refine at9 (by go_simp) fun K0 hK => wp_zeros _ _ rfl g i cap (n + 1 - i) _ rfl rfl (by omega) (xs.take (i * 42)) (by rw [List.length_take, HXL.out]; omega) (fun j u hu => by rw [Addr.add_lit, Nat.zero_add, GK.out.cell, List.getElem?_toArray]; rw [← HTK.out, List.getElem?_take, List.getElem?_take] at hu; split at hu; (split at hu; exact hu; cases hu); cases hu) (by omega) (by omega) (by omega) (fun cp C wa hgk hcl hge hmx htk0 xa => hK _ _ ?_)
 clear hK
 rw [show i + (n + 1 - i) = n + 1 from by omega] at hge ⊢
 obtain ⟨g2, hg2⟩ : ∃ g2, g2 = w.heap.size := ⟨_, rfl⟩
 rw [← hg2] at hgk ⊢
 have HG2 := Hi hg2
 have HGK := Hi hgk
 have HC2 := Hi hcl
 have HMX := Hi hmx
 have HT0 := Hi htk0
 have XA := Hi xa
 clear hgk hcl hmx htk0 xa hg2
 go_wp2_with (first | ((with_reducible refine so4 [36, 1000+36, 32, 1000+32, 4000+36] ?_ ?_); (focus rfl)) | (with_reducible refine stop_bs (t := 37) ?_) | (with_reducible refine stop_app ?_) | (with_reducible refine stop_slice ?_) | (with_reducible refine stop_copy ?_))
 refine at9 (by go_simp) fun K0 hK => wp_sl_l 37 _ _ rfl Try.slVS 42 Try.szVS _ (n + 1) cp i rfl rfl (by omega) (hK _ _ ?_)
 clear hK
 rw [sliced_at g2 (n + 1) cp i (by omega)]
 go_wp2_with (first | ((with_reducible refine so4 [36, 1000+36, 32, 1000+32, 4000+36] ?_ ?_); (focus rfl)) | (with_reducible refine stop_bs (t := 37) ?_) | (with_reducible refine stop_app ?_) | (with_reducible refine stop_slice ?_) | (with_reducible refine stop_copy ?_))
 have hbk3 : Bk wa b 36 zs.toArray := HBK.out.ext XA.out
 refine at9 (by go_simp) fun K0 hK => wp_copy_bk _ _ 37 37 36 g2 (i * 42) (n + 1 - i) (cp - i) ⟨b, 0, none⟩ 1 1 42 C 36 zs rfl rfl rfl Try.underlying37 Try.sizeVt HGK.out (by rw [HZL.out, show Nat.min 1 (n + 1 - i) = 1 from by simp only [Nat.min_def]; split <;> omega]) (fun j u hu => by rw [Addr.add_lit, Nat.zero_add, hbk3.cell]; simpa using hu) (by rw [HC2.out, HZL.out]; omega) HZ1.out (fun wb hd ho => hK _ _ ?_)
 clear hK
 obtain ⟨C2, hC2⟩ : ∃ C2, C2 = C.take (i * 42) ++ zs ++ C.drop (i * 42 + zs.length) := ⟨_, rfl⟩
 rw [← hC2] at hd
 have HD := Hi hd
 have XB := Hi (Md.ex ho.md XA.out (by rw [HG2.out]; exact Nat.le_refl _))
 have HC2e := Hi hC2
 have HCL2 : Hid (C2.length = cp * 42) := Hi (by rw [hC2]; simp only [List.length_append, List.length_take, List.length_drop, HC2.out, HZL.out]; omega)
 have HC1 := HC2
 replace HC2 := HCL2
 have GB := Hi (GK.out.ext XB.out)
 clear hC2 hd ho hbk3 HGK
 go_wp2_with (first | ((with_reducible refine so4 [36, 1000+36, 32, 1000+32, 4000+36] ?_ ?_); (focus rfl)) | (with_reducible refine stop_bs (t := 37) ?_) | (with_reducible refine stop_app ?_) | (with_reducible refine stop_slice ?_) | (with_reducible refine stop_copy ?_))
 obtain ⟨V0, hV⟩ : ∃ V0 : List Value, V0 = [.slice (some ⟨g2, 0, none⟩) (n + 1) (cp), .int .i64 ((i : Nat) : Int), .int .i64 ((1 : Nat) : Int), .int .i64 ((i + 1 : Nat) : Int), .slice (some ⟨g2, (i + 1) * 42, none⟩) (n + 1 - (i + 1)) (cp - (i + 1)), .slice (some ⟨g, 0, none⟩) (n) (cap), .int .i64 ((i : Nat) : Int), .slice (some ⟨g, i * 42, none⟩) (n - i) (cap - i), .int .i64 ((n - i : Nat) : Int)] := ⟨_, rfl⟩
 refine wp_region_val (fun i => V0.getD i undef) (fun l => CpI wb.drew (fun w9 => Bk w9 g2 36 (C2.take ((i + 1) * 42) ++ xs.drop (i * 42) ++ C2.drop ((i + 1) * 42 + (xs.drop (i * 42)).length)).toArray ∧ Ex w w9) (l.getD 8 false)) (by kernel_rfl) (by kernel_rfl) (by kernel_rfl) (fitB_spec (by kernel_rfl)) ?_ ?_ ?_
 ·intro l h0
  rw [h0]
  show CpI _ _ false _
  unfold CpI; rw [if_neg (by decide)]
 ·intro i o ho
  have hi : i < 9 := (Array.getElem?_eq_some_iff.1 ho).1
  have hi' : i = 0 ∨ i = 1 ∨ i = 2 ∨ i = 3 ∨ i = 4 ∨ i = 5 ∨ i = 6 ∨ i = 7 ∨ i = 8 := by omega
  clear hi
  rcases hi' with rfl | rfl | rfl | rfl | rfl | rfl | rfl | rfl | rfl
  all_goals (simp only [List.getElem?_toArray, List.getElem?_cons_zero, List.getElem?_cons_succ, Option.some.injEq] at ho; subst ho hV; intro listed a w2 hI hsz hls hun hdep hout)
  ·rw [if_pos (by rfl)]
   intro K hK
   have q9 := hout 9 (outB_spec (by kernel_rfl))
   clear hsz hdep hout hun
   go_simp
   exact hK _ (by show CpI _ _ _ _; rw [bit_set (by decide)]; exact hI)
  ·rw [if_pos (by rfl)]
   intro K hK
   have q1 := hout 1 (outB_spec (by kernel_rfl))
   clear hsz hdep hout hun
   go_simp
   exact hK _ (by show CpI _ _ _ _; rw [bit_set (by decide)]; exact hI)
  ·rw [if_pos (by rfl)]
   intro K hK
   have q7 := hout 7 (outB_spec (by kernel_rfl))
   clear hsz hdep hout hun
   go_simp
   exact hK _ (by show CpI _ _ _ _; rw [bit_set (by decide)]; exact hI)
  ·rw [if_pos (by rfl)]
   intro K hK
   have q47 := (hdep ⟨1, .data⟩ (by simp) rfl).2 _ rfl _ rfl
   have q47 : a.tmps.getD 47 undef = .int .i64 ((i : Nat) : Int) := q47
   have q48 := (hdep ⟨2, .data⟩ (by simp) rfl).2 _ rfl _ rfl
   have q48 : a.tmps.getD 48 undef = .int .i64 ((1 : Nat) : Int) := q48
   have e1 : IntKind.i64.wrap ((i : Int) + 1) = ((i + 1 : Nat) : Int) := by rw [IntKind.wrap_i64]; omega
   clear hsz hdep hout hun
   go_simp
   exact hK _ (by show CpI _ _ _ _; rw [bit_set (by decide)]; exact hI)
  ·rw [if_pos (by rfl)]
   intro K hK
   have q46 := (hdep ⟨0, .data⟩ (by simp) rfl).2 _ rfl _ rfl
   have q46 : a.tmps.getD 46 undef = .slice (some ⟨g2, 0, none⟩) (n + 1) (cp) := q46
   have q49 := (hdep ⟨3, .data⟩ (by simp) rfl).2 _ rfl _ rfl
   have q49 : a.tmps.getD 49 undef = .int .i64 ((i + 1 : Nat) : Int) := q49
   refine wp_sl_l 37 _ _ rfl Try.slVS 42 Try.szVS _ (n + 1) cp (i + 1) q46 q49 (by omega) ?_
   rw [sliced_at g2 (n + 1) cp (i + 1) (by omega)]
   exact hK _ (by show CpI _ _ _ _; rw [bit_set (by decide)]; exact hI)
  ·rw [if_pos (by rfl)]
   intro K hK
   have q0 := hout 0 (outB_spec (by kernel_rfl))
   clear hsz hdep hout hun
   go_simp
   exact hK _ (by show CpI _ _ _ _; rw [bit_set (by decide)]; exact hI)
  ·rw [if_pos (by rfl)]
   intro K hK
   have q1 := hout 1 (outB_spec (by kernel_rfl))
   clear hsz hdep hout hun
   go_simp
   exact hK _ (by show CpI _ _ _ _; rw [bit_set (by decide)]; exact hI)
  ·rw [if_pos (by rfl)]
   intro K hK
   have q51 := (hdep ⟨5, .data⟩ (by simp) rfl).2 _ rfl _ rfl
   have q51 : a.tmps.getD 51 undef = .slice (some ⟨g, 0, none⟩) (n) (cap) := q51
   have q52 := (hdep ⟨6, .data⟩ (by simp) rfl).2 _ rfl _ rfl
   have q52 : a.tmps.getD 52 undef = .int .i64 ((i : Nat) : Int) := q52
   refine wp_sl_l 37 _ _ rfl Try.slVS 42 Try.szVS _ n cap (i) q51 q52 (by omega) ?_
   rw [sliced_at g n cap (i) (by omega)]
   exact hK _ (by show CpI _ _ _ _; rw [bit_set (by decide)]; exact hI)
  rw [if_pos (by rfl)]
  intro K hK
  have q50 := (hdep ⟨4, .data⟩ (by simp) rfl).2 _ rfl _ rfl
  have q50 : a.tmps.getD 50 undef = .slice (some ⟨g2, (i + 1) * 42, none⟩) (n + 1 - (i + 1)) (cp - (i + 1)) := q50
  have q53 := (hdep ⟨7, .data⟩ (by simp) rfl).2 _ rfl _ rfl
  have q53 : a.tmps.getD 53 undef = .slice (some ⟨g, i * 42, none⟩) (n - i) (cap - i) := q53
  have hw2 : w2 = wb.drew := by
   have h : CpI _ _ (listed.getD 8 false) w2 := hI
   rw [hun] at h; unfold CpI at h; rw [if_neg (by decide)] at h; exact h
  subst hw2
  refine wp_copy_bk _ _ 37 37 36 g2 ((i + 1) * 42) (n + 1 - (i + 1)) (cp - (i + 1)) ⟨g, i * 42, none⟩ (n - i) (cap - i) 42 C2 36 (xs.drop (i * 42)) rfl q50 q53 Try.underlying37 Try.sizeVt (HD.out.ext (Below.refl _ _).drew) ?_ (fun j u hu => by rw [Addr.add_lit]; exact (Below.cell (p := ⟨g, i * 42 + j, none⟩) (Ex.trans XB.out (show Ex wb wb.drew from (Below.refl _ _).drew)) GK.out.lt).trans (by rw [GK.out.cell]; rw [List.getElem?_toArray]; rw [← HTK.out, List.getElem?_drop, List.getElem?_take] at hu; split at hu; exact hu; cases hu)) ?_ (fun u hu => H1.out u (List.mem_of_mem_drop hu)) (fun w9 hd ho => ?_)
  ·rw [List.length_drop, HXL.out, ← Nat.sub_mul]; congr 1; simp only [Nat.min_def]; split <;> omega
  ·rw [List.length_drop, HXL.out, ← Nat.sub_mul, HC2.out]; rw [← Nat.add_mul]; exact Nat.mul_le_mul_right _ (by omega)
  rw [show Nat.min (n - i) (n + 1 - (i + 1)) = n - i from by simp only [Nat.min_def]; split <;> omega]
  refine hK _ ?_
  show CpI _ _ _ _
  rw [bit_new (by rw [hls]; decide)]
  unfold CpI; rw [if_pos rfl]
  exact ⟨hd, Md.ex ho.md (Ex.trans XB.out (show Ex wb wb.drew from (Below.refl _ _).drew)) (by rw [HG2.out]; exact Nat.le_refl _)⟩
 intro listed w3 hall hI
 rw [hall 8 (by simp)] at hI
 unfold CpI at hI
 rw [if_pos rfl] at hI
 subst hV
 simp only [putAll, List.getD_cons_zero, List.getD_cons_succ, Act.put, List.setIfInBounds_toArray, List.set_cons_zero, List.set_cons_succ]
 have HF := Hi hI
 clear hI hall
 have HRES : Hid (InsPost xs zs B i n (.slice (some ⟨g, 0, none⟩) n cap) w (.returned (.slice (some ⟨g2, 0, none⟩) (n + 1) cp)) w3) := Hi (by
  have hA : (xs.take (i * 42)).length = i * 42 := by rw [List.length_take, HXL.out]; omega
  have hY : (xs.drop (i * 42)).length = (n - i) * 42 := by rw [List.length_drop, HXL.out, Nat.sub_mul]
  have h42 : (i + 1) * 42 = i * 42 + 42 := Nat.succ_mul i 42
  have hn42 : (n - i) * 42 + i * 42 = n * 42 := by rw [← Nat.add_mul]; congr 1; omega
  have hc42 : (n + 1) * 42 ≤ cp * 42 := Nat.mul_le_mul_right _ hge
  have hsh := take_mid (A := xs.take (i * 42)) (z := zs) (Y := xs.drop (i * 42)) (C := C) (a := i * 42) (b := 42) hA HZL.out HT0.out (by rw [hY, HC1.out]; omega)
  refine ⟨_, rfl, ⟨by simp only [List.length_append, hA, hY, HZL.out]; omega, Or.inr ⟨g2, cp, _, rfl, by rw [HG2.out]; exact HB0.out, HF.out.1, hge, HMX.out, ?_, ?_⟩⟩, Ex.grownBy _ HF.out.2, Or.inr fun x hx => by cases hx; rw [HG2.out]; exact Nat.le_refl _⟩
  ·rw [h42]
   simp only [List.size_toArray, List.length_append, List.length_take, List.length_drop, HC2.out, hY]
   omega
  ·rw [HC2e.out, HZL.out, h42]
   rw [show (n + 1) * 42 = i * 42 + 42 + (xs.drop (i * 42)).length from by rw [hY]; omega]
   exact hsh)
 clear HF
 go_wp2_with fail
 go_ret
 exact HRES.out
end Go.Proofs.Ytmjfnpmnhehnkaa
