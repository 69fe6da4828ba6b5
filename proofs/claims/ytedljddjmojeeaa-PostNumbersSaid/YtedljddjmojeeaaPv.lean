/- PostNumbers walked -/
import Derived.Test.YtedljddjmojeeaaPs
import Derived.Lib.AppendZeros
namespace Go.Proofs.Ytedljddjmojeeaa
open Go.RowKit
theorem aflat_at : ∀ (l : List Ak) (i j : Nat) (x : Ak), l[i]? = some x → j < 6 → (l.flatMap Ak.C)[i * 6 + j]? = x.C[j]?
  | [], _, _, _, h, _ => by simp at h
  | y :: r, 0, j, x, h, hj => by
    obtain rfl : y = x := by simpa using h
    rw [List.flatMap_cons, List.getElem?_append_left (by rw [Ak.C_len]; omega)]
    congr 1; omega
  | y :: r, i + 1, j, x, h, hj => by
    rw [List.flatMap_cons, List.getElem?_append_right (by rw [Ak.C_len]; omega), Ak.C_len, show (i + 1) * 6 + j - 6 = i * 6 + j by omega]
    exact aflat_at r i j x (by simpa using h) hj
theorem aflat_one (ls : List Ak) : ∀ u ∈ ls.flatMap Ak.C, u.oneCell' = true := by
  intro u hu
  rw [List.mem_flatMap] at hu
  obtain ⟨x, _, hx⟩ := hu
  have := x.ones
  rw [List.all_toArray] at this
  exact List.all_eq_true.1 this u hx
/-- what is asked, with bytes in memory of bytes -/
structure Ak.Ok (a : Ak) (w : World) : Prop where
  k : -9223372036854775808 ≤ a.kind ∧ a.kind ≤ 9223372036854775807
  i : -9223372036854775808 ≤ a.i ∧ a.i ≤ 9223372036854775807
  x : LN w 0 a.x
  n : a.x.bs.l.length ≤ 10000
theorem Ak.Ok.inn {a : Ak} {w : World} (h : a.Ok w) : a.In w := ⟨h.k, h.i, LN.inn h.x (Nat.le_trans h.n (by decide))⟩
theorem Ak.Ok.kt {a : Ak} {S : List Nat} {B : Nat} {w w' : World} (h : a.Ok w) (k : Kt S B w w') (hs : 5 ∉ S) : a.Ok w' := { h with x := h.x.kt k hs }
theorem Ak.Ok.ext {a : Ak} {w w' : World} (h : a.Ok w) (k : Ex w w') : a.Ok w' := { h with x := h.x.ext k }
/-- a row of such -/
structure ARow (w : World) (B : Nat) (v : Value) (n : Nat) (l : List Ak) : Prop where
  len : l.length = n
  row : w.ownsRow B 72 6 v n (l.flatMap Ak.C)
  all : ∀ x ∈ l, x.Ok w
theorem ARow.ext {w w' : World} {B : Nat} {v : Value} {n : Nat} {l : List Ak} (h : ARow w B v n l) (k : Ex w w') : ARow w' B v n l := ⟨h.len, k.row h.row, fun x hx => (h.all x hx).ext k⟩
theorem ARow.inn {w : World} {B : Nat} {v : Value} {n : Nat} {l : List Ak} (h : ARow w B v n l) : ∃ ad cap, v = .slice ad l.length cap ∧ Ap.In ad cap l w := by
  have hin : ∀ (i : Nat) (x : Ak), l[i]? = some x → x.In w := fun i x hx => (h.all x (List.mem_of_getElem? hx)).inn
  obtain ⟨hlen, ⟨h1, ⟨hv, h0⟩ | ⟨g, cap, cur, rfl, hb, hh, hc, hm, hs, ht⟩⟩, hall⟩ := h
  · exact ⟨none, 0, by rw [hlen, h0]; exact hv, ⟨by omega, fun _ => rfl, hin, fun h => by omega⟩⟩
  · refine ⟨some ⟨g, 0, none⟩, cap, by rw [hlen], ⟨by omega, (fun h => by cases h), hin, fun _ => ⟨g, 0, rfl, (show Bk w g 72 cur from hh).lt, fun i x hx j u hu => ?_⟩⟩⟩
    have hil : i < l.length := (List.getElem?_eq_some_iff.1 hx).1
    have hj : j < 6 := by have := (List.getElem?_eq_some_iff.1 hu).1; rw [Ak.C_len] at this; exact this
    have h3 := aflat_at l i j x hx hj
    rw [← ht, hu, List.getElem?_take, if_pos (by omega)] at h3
    rw [(show Bk w g 72 cur from hh).cell, Nat.zero_add, ← Array.getElem?_toList]
    exact h3
theorem ak_zero : (Ak.mk 0 0 zeroLt).V = .agg #[.int .i64 0, .int .i64 0, .int .i64 0, .int .i64 0, .int .i64 0, .slice none 0 0] := rfl
theorem Try.infoAk : (Try.prog.info? 72).map (fun i => (i.zero, i.size, i.bytes)) = some (some (Ak.mk 0 0 zeroLt).V, 6, 64) := by kernel_rfl
set_option maxRecDepth 100000 in
theorem wp_bsa {o : Oper} {a : Act} {w : World} {K : Act → World → Prop} {Q : Exit → Act → World → Prop} (y : Operand) (x : Ak) (ho : o.op = .buildSlice 68 1 #[(0, y)]) (hy : a.eval y = x.V)
    (hk : K (a.put o.dst (.slice (some ⟨w.heap.size, 0, none⟩) 1 1)) (w.alloc (.cells x.C.toArray 72))) : o.wp Try.prog a w K Q := by
  obtain ⟨kd, i, k, f, t, ad, cap, l⟩ := x
  have hy : a.eval y = .agg #[.int .i64 kd, .int .i64 i, .int .i64 k, .int .i64 f, .int .i64 t, .slice ad l.length cap] := hy
  unfold Oper.wp
  obtain ⟨ev, hev⟩ : ∃ ev, ev = a.eval := ⟨_, rfl⟩
  rw [← hev] at hy ⊢
  clear hev
  unfold execOp
  simp only [ho]
  simp [hy, go_sem]
  go_simp
  exact hk
set_option maxRecDepth 100000 in
theorem wp_bsa2 {o : Oper} {a : Act} {w : World} {K : Act → World → Prop} {Q : Exit → Act → World → Prop} (y y2 : Operand) (x x2 : Ak) (ho : o.op = .buildSlice 68 2 #[(0, y), (1, y2)]) (hy : a.eval y = x.V) (hy2 : a.eval y2 = x2.V)
    (hk : K (a.put o.dst (.slice (some ⟨w.heap.size, 0, none⟩) 2 2)) (w.alloc (.cells (x.C ++ x2.C).toArray 72))) : o.wp Try.prog a w K Q := by
  obtain ⟨kd, i, k, f, t, ad, cap, l⟩ := x
  obtain ⟨kd2, i2, k2, f2, t2, ad2, cap2, l2⟩ := x2
  have hy : a.eval y = .agg #[.int .i64 kd, .int .i64 i, .int .i64 k, .int .i64 f, .int .i64 t, .slice ad l.length cap] := hy
  have hy2 : a.eval y2 = .agg #[.int .i64 kd2, .int .i64 i2, .int .i64 k2, .int .i64 f2, .int .i64 t2, .slice ad2 l2.length cap2] := hy2
  unfold Oper.wp
  obtain ⟨ev, hev⟩ : ∃ ev, ev = a.eval := ⟨_, rfl⟩
  rw [← hev] at hy hy2 ⊢
  clear hev
  unfold execOp
  simp only [ho]
  simp [hy, hy2, go_sem]
  go_simp
  exact hk
def pvIn (x : Lt) (n : Nat) : Prop := True
def kt10 : List Int := [0, 1, 6, 7, 2, 4, 8, 3, 6, 5]
theorem built_pl' (k f t : Int) (g n : Nat) : Try.prog.built 70 [(0, .int .i64 k), (1, .int .i64 f), (2, .int .i64 t), (3, .slice (some ⟨g, 0, none⟩) n n)] = some [.int .i64 k, .int .i64 f, .int .i64 t, .slice (some ⟨g, 0, none⟩) n n].toArray := by kernel_rfl
theorem built_pl (k f t : Int) (g n : Nat) : Try.prog.built 70 [(0, .int .i64 k), (1, .int .i64 f), (2, .int .i64 t), (3, .slice (some ⟨g, 0, none⟩) n n)] = some (Lt.mk k f t ⟨some ⟨g, 0, none⟩, n, List.replicate n 0⟩).C.toArray := by
  have e : (Lt.mk k f t ⟨some ⟨g, 0, none⟩, n, List.replicate n 0⟩).C = [.int .i64 k, .int .i64 f, .int .i64 t, .slice (some ⟨g, 0, none⟩) n n] := by
    unfold Lt.C Pt.V
    simp only [List.length_replicate]
  rw [e]
  exact built_pl' k f t g n
end Go.Proofs.Ytedljddjmojeeaa
