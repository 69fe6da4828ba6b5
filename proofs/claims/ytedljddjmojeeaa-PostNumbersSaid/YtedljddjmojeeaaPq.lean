/- what is asked of an office; the state of play, and how it goes on -/
import Derived.Test.YtedljddjmojeeaaPo
namespace Go.Proofs.Ytedljddjmojeeaa
open Go.RowKit
structure Ak where
  kind : Int
  i : Int
  x : Lt
def Ak.C (a : Ak) : List Value := [.int .i64 a.kind, .int .i64 a.i, .int .i64 a.x.kind, .int .i64 a.x.frm, .int .i64 a.x.to, a.x.bs.V]
def Ak.V (a : Ak) : Value := .agg a.C.toArray
theorem Ak.C_len (a : Ak) : a.C.length = 6 := rfl
theorem Ak.ones (a : Ak) : a.C.toArray.all (·.oneCell') = true := all_oneCell_toArray (by
  intro v hv
  unfold Ak.C at hv
  simp only [List.mem_cons, List.not_mem_nil, or_false] at hv
  rcases hv with rfl | rfl | rfl | rfl | rfl | rfl
  all_goals first | rfl | (cases a; rfl))
structure Ak.In (a : Ak) (w : World) : Prop where
  k : -9223372036854775808 ≤ a.kind ∧ a.kind ≤ 9223372036854775807
  i : -9223372036854775808 ≤ a.i ∧ a.i ≤ 9223372036854775807
  x : a.x.In w
structure Ap.In (ad : Option Addr) (cap : Nat) (l : List Ak) (w : World) : Prop where
  len : l.length ≤ cap
  nil : ad = none → cap = 0
  ins : ∀ (i : Nat) (x : Ak), l[i]? = some x → x.In w
  read : 0 < l.length → ∃ a o, ad = some ⟨a, o, none⟩ ∧ a < w.heap.size ∧ ∀ (i : Nat) (x : Ak), l[i]? = some x → w.rangeAt a (o + i * 6) x.C
theorem Try.sizeAk : (Try.prog.info? 72).map (·.size) = some 6 := by kernel_rfl
theorem Try.infoBool : (Try.prog.info? 4).map (fun i => (i.zero, i.size, i.bytes)) = some (some (.bool false), 1, 1) := by kernel_rfl
theorem Try.slLS : Try.prog.underlying 78 = some (.slice (Try.prog.elem 78)) := by kernel_rfl
theorem Try.slBS : Try.prog.underlying 85 = some (.slice (Try.prog.elem 85)) := by kernel_rfl
theorem Try.szLS (w : World) : (sizeOf (Try.prog.elem 78)).run Try.prog w = .ok 4 w := by kernel_rfl
theorem Try.szBS (w : World) : (sizeOf (Try.prog.elem 85)).run Try.prog w = .ok 1 w := by kernel_rfl
section
variable {o : Oper} {a : Act} {w : World} {K : Act → World → Prop} {Q : Exit → Act → World → Prop}
theorem ld_ar (y : Operand) (g off : Nat) (x : Ak) (ho : o.op = .load 72 y) (ha : a.eval y = .pointer (some ⟨g, off, none⟩)) (h : w.rangeAt g off x.C) (hk : K (a.put o.dst x.V) w) : o.wp Try.prog a w K Q := by
  obtain ⟨dd, hd⟩ : ∃ d, Try.prog.underlying 72 = some d ∧ d.isRow = true := ⟨_, Try.underlying72, rfl⟩
  exact wp_load_mid 72 y ho g off ha x.C dd h hd.1 hd.2 (by rw [Try.sizeAk]; rfl) hk
theorem st_ak (x y : Operand) (g : Nat) (v : Ak) (ho : o.op = .store 72 x y) (ha : a.eval x = .pointer (some ⟨g, 0, none⟩)) (hy : a.eval y = v.V)
    {Y : Array Value} (hB : Bk w g 72 Y) (hY : Y.size = 6) (hk : ∀ w', Bk w' g 72 v.C.toArray → Only g w w' → K (a.put o.dst undef) w') : o.wp Try.prog a w K Q := by
  have hB' : Bk w g 72 Y.toList.toArray := by simpa using hB
  refine wp_stp v.C x y g 0 ho ha hy hB' (by rw [Ak.C_len]; simp [hY]) (by rw [Try.sizeAk, Ak.C_len]) v.ones (fun w' h1 h2 => hk w' ?_ h2)
  have e : Y.toList.take 0 ++ v.C ++ Y.toList.drop (0 + v.C.length) = v.C := by
    rw [List.take_zero, List.nil_append, List.drop_eq_nil_of_le (by rw [Ak.C_len]; simp [hY]), List.append_nil]
  rw [e] at h1; exact h1
end
def mC (ls : List (Bool × Lt)) : List Value := (ls.map (·.2)).flatMap Lt.C
def hC (ls : List (Bool × Lt)) : List Value := (ls.map (·.1)).map Value.bool
/-- what holds while calls are played: an office that holds l, plain rows of ls -/
structure Pst (w wr : World) (O : Nat) (l : List (Bool × Lc)) (ls : List (Bool × Lt)) (mv hv : Value) : Prop where
  lo : w.heap.size ≤ O
  off : OF wr O l
  mrow : wr.ownsRow w.heap.size 70 4 mv ls.length (mC ls)
  hrow : wr.ownsRow w.heap.size 4 1 hv ls.length (hC ls)
  lets : ∀ (i : Nat) (x : Bool × Lt), ls[i]? = some x → x.2.Ok ∧ x.2.bs.In w w.heap.size ∧ x.2.bs.l.length ≤ 30
  ext : Ex w wr
theorem Pst.ex {w wr w' : World} {O : Nat} {l : List (Bool × Lc)} {ls : List (Bool × Lt)} {mv hv : Value} (h : Pst w wr O l ls mv hv) (k : Ex wr w') : Pst w w' O l ls mv hv :=
  ⟨h.lo, h.off.ext k, k.row h.mrow, k.row h.hrow, h.lets, Ex.trans h.ext k⟩
theorem Pst.ft {w wr w' : World} {O : Nat} {l l' : List (Bool × Lc)} {ls : List (Bool × Lt)} {mv hv : Value} (h : Pst w wr O l ls mv hv) (k : FT O wr w') (ho : OF w' O l') : Pst w w' O l' ls mv hv := by
  have kt : Kt [20, 107] O wr w' := ⟨k.below, fun i cs t fr hi hs => k.typ i cs t fr hi (fun e => hs (by rw [e]; decide)) (fun e => hs (by rw [e]; decide))⟩
  exact ⟨h.lo, ho, kt.row h.mrow (by decide), kt.row h.hrow (by decide), h.lets, Below.trans (show Below w.heap.size w wr from h.ext) (k.below.mono h.lo)⟩
theorem Pst.rows {w wr w' : World} {O : Nat} {l : List (Bool × Lc)} {ls ls' : List (Bool × Lt)} {mv hv mv' hv' : Value} (h : Pst w wr O l ls mv hv) (k : Ex wr w') (B : Nat) (hB : w.heap.size ≤ B) {n n' : Nat} {ys zs : List Value} (h1 : w'.ownsRow B 70 4 mv' n ys) (h2 : w'.ownsRow B 4 1 hv' n' zs)
    (e1 : ls'.length = n) (e2 : ls'.length = n') (e3 : mC ls' = ys) (e4 : hC ls' = zs) (hi : ∀ x ∈ ls', x ∈ ls ∨ (x.2.Ok ∧ x.2.bs.In w w.heap.size ∧ x.2.bs.l.length ≤ 30)) : Pst w w' O l ls' mv' hv' :=
  ⟨h.lo, h.off.ext k, by rw [e1, e3]; exact rown_less h1 hB, by rw [e2, e4]; exact rown_less h2 hB, fun i x hx => by
    rcases hi x (List.mem_of_getElem? hx) with h3 | h3
    · obtain ⟨j, hj, e⟩ := List.getElem_of_mem h3
      exact h.lets j x (by rw [List.getElem?_eq_getElem hj, e])
    · exact h3, Ex.trans h.ext k⟩
theorem own_form {w : World} {B : Nat} {e : TypeId} {sz n m cap : Nat} {ad : Option Addr} {xs : List Value} (h : w.ownsRow B e sz (.slice ad m cap) n xs) : m = n ∧ (ad = none → cap = 0) ∧ n ≤ cap ∧ cap ≤ 9223372036854775807 ∧ Rd w ad n sz xs := by
  obtain ⟨ad', cap', e, h1, h2, h3, h4⟩ := own_rd h
  cases e
  exact ⟨rfl, h1, h2, h3, h4⟩
theorem Pst.lp {w wr : World} {O : Nat} {l : List (Bool × Lc)} {ls : List (Bool × Lt)} {mv hv : Value} (h : Pst w wr O l ls mv hv) : ∃ ad cap, mv = .slice ad ls.length cap ∧ Lp.In ad cap (ls.map (·.2)) wr := by
  have h1 : LRow wr w.heap.size mv (ls.map (·.2)) := by unfold LRow; rw [List.length_map]; exact h.mrow
  obtain ⟨ad, cap, e, _, k⟩ := row_in h1 (fun i x hx => by
    rw [List.getElem?_map] at hx
    cases hy : ls[i]? with
    | none => rw [hy] at hx; cases hx
    | some y =>
      rw [hy] at hx
      obtain rfl : y.2 = x := Option.some.inj hx
      obtain ⟨a1, a2, a3⟩ := h.lets i y hy
      exact ⟨⟨a1.kind0, a1.kind1⟩, ⟨a1.frm0, a1.frm1⟩, ⟨a1.to0, a1.to1⟩, a2.ext h.ext, Nat.le_trans a3 (by decide)⟩)
  rw [List.length_map] at e
  exact ⟨ad, cap, e, k⟩
theorem Pst.bp {w wr : World} {O : Nat} {l : List (Bool × Lc)} {ls : List (Bool × Lt)} {mv hv : Value} (h : Pst w wr O l ls mv hv) (hn : ls.length ≤ 9223372036854775807) : ∃ ad cap, hv = .slice ad ls.length cap ∧ BIn ad ls.length (fun i => (ls.map (·.1)).getD i false) wr := by
  have h1 : BRow wr w.heap.size hv (ls.map (·.1)) := by unfold BRow; rw [List.length_map]; exact h.hrow
  obtain ⟨ad, cap, e, _, _, k⟩ := brow_in h1 (by rw [List.length_map]; exact hn)
  rw [List.length_map] at e k
  exact ⟨ad, cap, e, k⟩
theorem OF.len {w : World} {O : Nat} {l : List (Bool × Lc)} (h : OF w O l) : l.length ≤ 64 := by
  obtain ⟨rv, ls, h1, rfl⟩ := h; rw [ctO_len]; exact h1.len
theorem same_st {w wr : World} {O : Nat} {ls : List (Bool × Lt)} {mv hv : Value} (h : Pst w wr O (ctO ls) ls mv hv) : Calls Try.prog 58 #[.pointer (some ⟨O, 0, none⟩), mv, hv] wr fun e w' => e = .returned (.bool true) ∧ Ex wr w' := by
  have hn := h.off.len
  rw [ctO_len] at hn
  obtain ⟨ad, cap, rfl, h1⟩ := h.lp
  obtain ⟨ad2, cap2, rfl, h2⟩ := h.bp (by omega)
  exact same21 O ls wr h.off ad cap h1 ad2 cap2 h2
theorem flat_take (l : List Lt) (k : Nat) : (l.take k).flatMap Lt.C = (l.flatMap Lt.C).take (k * 4) := by
  induction l generalizing k with
  | nil => simp
  | cons x r ih =>
    cases k with
    | zero => simp
    | succ k =>
      have h1 : x.C.take ((k + 1) * 4) = x.C := List.take_of_length_le (by rw [Lt.C_len]; omega)
      rw [List.take_succ_cons, List.flatMap_cons, List.flatMap_cons, ih, List.take_append, Lt.C_len, h1, show (k + 1) * 4 - 4 = k * 4 by omega]
theorem flat_drop (l : List Lt) (k : Nat) : (l.drop k).flatMap Lt.C = (l.flatMap Lt.C).drop (k * 4) := by
  induction l generalizing k with
  | nil => simp
  | cons x r ih =>
    cases k with
    | zero => simp
    | succ k =>
      have h1 : x.C.drop ((k + 1) * 4) = [] := List.drop_eq_nil_of_le (by rw [Lt.C_len]; omega)
      rw [List.drop_succ_cons, List.flatMap_cons, ih, List.drop_append, Lt.C_len, h1, List.nil_append, show (k + 1) * 4 - 4 = k * 4 by omega]
theorem mC_erase (ls : List (Bool × Lt)) (p : Nat) : mC (ls.eraseIdx p) = (mC ls).take (p * 4) ++ (mC ls).drop ((p + 1) * 4) := by
  unfold mC
  rw [List.eraseIdx_eq_take_drop_succ, List.map_append, List.flatMap_append, List.map_take, List.map_drop, flat_take, flat_drop]
theorem hC_erase (ls : List (Bool × Lt)) (p : Nat) : hC (ls.eraseIdx p) = (hC ls).take (p * 1) ++ (hC ls).drop ((p + 1) * 1) := by
  unfold hC
  rw [List.eraseIdx_eq_take_drop_succ, List.map_append, List.map_append, Nat.mul_one, Nat.mul_one]
  simp only [List.map_take, List.map_drop]
theorem mC_app (ls : List (Bool × Lt)) (x : Bool × Lt) : mC (ls ++ [x]) = mC ls ++ x.2.C := by unfold mC; simp
theorem hC_app (ls : List (Bool × Lt)) (x : Bool × Lt) : hC (ls ++ [x]) = hC ls ++ [.bool x.1] := by unfold hC; simp
theorem mC_one (ls : List (Bool × Lt)) : ∀ u ∈ mC ls, u.oneCell' = true := lflat_one _
theorem hC_one (ls : List (Bool × Lt)) : ∀ u ∈ hC ls, u.oneCell' = true := by
  intro u hu; unfold hC at hu
  rw [List.mem_map] at hu
  obtain ⟨b, _, rfl⟩ := hu; rfl
theorem Lt.C_one (x : Lt) : ∀ u ∈ x.C, u.oneCell' = true := fun u hu => lflat_one [x] u (by simpa using hu)
theorem set_same {α : Type} {l : List α} {i : Nat} {x : α} (h : l[i]? = some x) : l.set i x = l := by
  obtain ⟨hi, e⟩ := List.getElem?_eq_some_iff.1 h
  rw [← e, List.set_getElem_self]
/-- a mark is set -/
theorem Pst.mark {w wr : World} {O : Nat} {l : List (Bool × Lc)} {ls : List (Bool × Lt)} {mv : Value} {ad : Option Addr} {n cap : Nat} (h : Pst w wr O l ls mv (.slice ad n cap)) (p : Nat) (y : Bool × Lt) (hp : ls[p]? = some y) (b : Bool) :
    ∃ g cur, ad = some ⟨g, 0, none⟩ ∧ Bk wr g 4 cur ∧ p < cur.size ∧ ∀ w', Bk w' g 4 (cur.toList.set p (.bool b)).toArray → Only g wr w' → Pst w w' O l (ls.set p (b, y.2)) mv (.slice ad n cap) := by
  have hlt := (List.getElem?_eq_some_iff.1 hp).1
  obtain ⟨h1, ⟨hv, h0⟩ | ⟨g, cap', cur, hv, hb, hh, hc, hm, hs, ht⟩⟩ := h.hrow
  · omega
  · cases hv
    refine ⟨g, cur, rfl, hh, by omega, fun w' hb' ho => ?_⟩
    have hlen : (ls.set p (b, y.2)).length = ls.length := List.length_set ..
    have hx : Ex w w' := ho.below w.heap.size hb w h.ext
    refine ⟨h.lo, h.off.far ho hh (by decide) (by decide) (by decide), ?_, ?_, fun i x hx' => ?_, hx⟩
    · have kt : Kt [4] w.heap.size wr w' := Kt.md ho.md hb hh (List.mem_singleton.2 rfl)
      have e : mC (ls.set p (b, y.2)) = mC ls := by
        unfold mC
        rw [List.map_set]
        congr 1
        have : (ls.map (·.2))[p]? = some y.2 := by rw [List.getElem?_map, hp]; rfl
        exact set_same this
      rw [hlen, e]
      exact kt.row h.mrow (by decide)
    · refine ⟨by unfold hC; rw [List.length_map, List.length_map, Nat.mul_one], .inr ⟨g, cap, (cur.toList.set p (.bool b)).toArray, by rw [hlen], hb, hb', by rw [hlen]; exact hc, hm, by simp [hs], ?_⟩⟩
      rw [hlen, List.toList_toArray, List.take_set, ht]
      unfold hC
      rw [List.map_set, List.map_set]
    · rcases Nat.decEq p i with e | e
      · rw [List.getElem?_set_ne e] at hx'; exact h.lets i x hx'
      · subst e
        rw [List.getElem?_set_self hlt] at hx'
        obtain rfl : (b, y.2) = x := Option.some.inj hx'
        exact h.lets p y hp
end Go.Proofs.Ytedljddjmojeeaa
