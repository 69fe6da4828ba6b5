/- rows of votes -/
import Derived.Test.YtgoiidpcdifojaaEe
namespace Go.Proofs.Ytgoiidpcdifojaa
open Go.RowKit
open Sm (digV DB by8 sumL numL zero16 by8_int Cls cls_load_mid wp_region_cls byteCells_len)
def vown (w : World) (B : Nat) (v : Value) (l : List (Int × List UInt8)) : Prop := (∀ (i : Nat) (x : Int × List UInt8), l[i]? = some x → x.2.length = 16) ∧ w.ownsRow B 88 17 v l.length (l.flatMap voC)
theorem flat_at : ∀ (l : List (Int × List UInt8)) (_ : ∀ (i : Nat) (x : Int × List UInt8), l[i]? = some x → x.2.length = 16) (i j : Nat) (x : Int × List UInt8), l[i]? = some x → j < 17 → (l.flatMap voC)[17 * i + j]? = (voC x)[j]?
  | [], _, _, _, _, h, _ => by simp at h
  | y :: r, H, 0, j, x, h, hj => by
    obtain rfl : y = x := by simpa using h
    have hy := voC_len (H 0 y rfl)
    rw [List.flatMap_cons, List.getElem?_append_left (by omega)]
    congr 1; omega
  | y :: r, H, i + 1, j, x, h, hj => by
    have hy := voC_len (H 0 y rfl)
    rw [List.flatMap_cons, List.getElem?_append_right (by omega), hy, show 17 * (i + 1) + j - 17 = 17 * i + j by omega]
    exact flat_at r (fun k z hz => H (k + 1) z (by simpa using hz)) i j x (by simpa using h) hj
theorem vown_nil (w : World) (B : Nat) : vown w B (.slice none 0 0) [] := ⟨fun i x h => by simp at h, World.ownsRow_nil w B 88 17⟩
theorem vown_under {w w' : World} {B : Nat} {v : Value} {l : List (Int × List UInt8)} (h : vown w B v l) (k : Ex w w') : vown w' B v l := by
  obtain ⟨h0, h1, h2 | ⟨g, cap, cur, h3, h4, h5, r⟩⟩ := h
  · exact ⟨h0, h1, .inl h2⟩
  · exact ⟨h0, h1, .inr ⟨g, cap, cur, h3, h4, (Bk.ext (show Bk w g 88 cur from h5) k), r⟩⟩
theorem vown_vp {w : World} {B : Nat} {v : Value} {l : List (Int × List UInt8)} (h : vown w B v l) : ∃ p : Vp, v = p.V ∧ p.l = l ∧ p.In w w.heap.size := by
  obtain ⟨h0, h1, h2 | ⟨g, cap, cur, rfl, hb, hh, hc, hm, hs, ht⟩⟩ := h
  · refine ⟨⟨none, 0, l⟩, ?_, rfl, ⟨?_, fun _ => rfl, h0, ?_⟩⟩
    · unfold Vp.V; simp only; rw [h2.2]; exact h2.1
    · simp only; rw [h2.2]; exact Nat.le_refl 0
    · intro h0; simp only at h0; omega
  · refine ⟨⟨some ⟨g, 0, none⟩, cap, l⟩, rfl, rfl, ⟨hc, (fun h => by cases h), h0, fun _ => ⟨g, 0, rfl, (show Bk w g 88 cur from hh).lt, fun i x hi j u hu => ?_⟩⟩⟩
    simp only at hi
    have hil : i < l.length := (List.getElem?_eq_some_iff.1 hi).1
    have hj : j < 17 := by have := (List.getElem?_eq_some_iff.1 hu).1; rw [voC_len (h0 i x hi)] at this; exact this
    have h3 := flat_at l h0 i j x hi hj
    rw [← ht, hu, List.getElem?_take, if_pos (by omega)] at h3
    rw [(show Bk w g 88 cur from hh).cell, Nat.zero_add, ← Array.getElem?_toList]
    exact h3
theorem Try.info88 : (Try.prog.info? 88).map (fun i => (i.zero, i.size, i.bytes)) = some (some (.agg #[.int .i64 0, .int .u8 0, .int .u8 0, .int .u8 0, .int .u8 0, .int .u8 0, .int .u8 0, .int .u8 0, .int .u8 0, .int .u8 0, .int .u8 0, .int .u8 0, .int .u8 0, .int .u8 0, .int .u8 0, .int .u8 0, .int .u8 0]), 17, 24) := by kernel_rfl
theorem voC_one (x : Int × List UInt8) : ∀ u ∈ voC x, u.oneCell' = true := fun u hu => by
  unfold voC Lib.byteCells at hu
  simp at hu
  rcases hu with rfl | ⟨b, _, rfl⟩ <;> rfl
theorem vappend {ops : Array Oper} {rest : List Oper} {o : Oper} {a : Act} {w : World} {Q : Exit → Act → World → Prop} (hgd : o.guard = none) (s y : Operand)
    (ho : o.op = .call { callee := .builtin .append, args := #[s, y], argTypes := #[61, 61] })
    (base : Nat) (v : Value) (l : List (Int × List UInt8)) (hs : a.eval s = v) (hown : vown w base v l) (x : Int × List UInt8) (hx16 : x.2.length = 16) (g : Nat)
    (hy : a.eval y = .slice (some ⟨g, 0, none⟩) 1 1) (hg : Bk w g 88 (voC x).toArray)
    (hbytes : l.length ≤ 1000000) (hbase : base ≤ w.heap.size)
    (h : ∀ v' w', vown w' base v' (l ++ [x]) → Below base w w' → wpList Try.prog ops Q rest (a.put o.dst v') w') : wpList Try.prog ops Q (o :: rest) a w := by
  obtain ⟨i0, hi0, hz0, hz1, hz2⟩ := info_parts Try.info88
  refine wpList_append_own _ hgd s y _ ho base 88 i0 _ 17 24 Try.underlying61 hi0 hz0 hz1 hz2 rfl (by omega) v l.length (l.flatMap voC) hs hown.2 ⟨g, 0, none⟩ 1 1 (voC x) hy (by rw [voC_len hx16]) ?_ (voC_one x) (by unfold maxLen; omega) (by omega) hbase (fun v' w' h1 h2 _ => h v' w' ⟨?_, ?_⟩ ?_)
  · intro j u hu
    rw [Addr.add_lit, Nat.zero_add, hg.cell]
    simpa using hu
  · intro i z hz
    rcases Nat.lt_or_ge i l.length with hi | hi
    · exact hown.1 i z (by rw [← hz, List.getElem?_append_left hi])
    · rw [List.getElem?_append_right hi] at hz
      have hi0 : i - l.length = 0 := by
        rcases Nat.eq_zero_or_pos (i - l.length) with h | h
        · exact h
        · rw [List.getElem?_eq_none (by simp; omega)] at hz; cases hz
      rw [hi0] at hz
      obtain rfl : x = z := by simpa using hz
      exact hx16
  · rw [List.length_append, List.flatMap_append]
    simpa using h1
  · exact (Below.refl _ _).grown h2 hbase (fun k hk => (World.ownsRow.lt hown.2 k hk).1)
theorem stop_bs61 {P : Program} {ops : Array Oper} {rest : List Oper} {d : Option Tmp} {n : Nat} {fs : Array (Nat × Operand)} {t2 : TypeId} {pos : String} {af : Array Edge} {g : Option (Nat × Bool)} {a : Act} {w : World} {Q : Exit → Act → World → Prop}
    (k : Stop (wpList P ops Q ({ dst := d, op := .buildSlice 61 n fs, type := t2, pos := pos, after := af, guard := g } :: rest) a w)) : wpList P ops Q ({ dst := d, op := .buildSlice 61 n fs, type := t2, pos := pos, after := af, guard := g } :: rest) a w := k.go
set_option maxRecDepth 100000 in
theorem wp_bs61 {o : Oper} {a : Act} {w : World} {K : Act → World → Prop} {Q : Exit → Act → World → Prop} (y : Operand) (x : Int × List UInt8) (hM : x.2.length = 16) (ho : o.op = .buildSlice 61 1 #[(0, y)]) (hy : a.eval y = voV x)
    (hk : K (a.put o.dst (.slice (some ⟨w.heap.size, 0, none⟩) 1 1)) (w.alloc (.cells (voC x).toArray 88))) : o.wp Try.prog a w K Q := by
  obtain ⟨m, M⟩ := x
  obtain ⟨x0, x1, x2, x3, x4, x5, x6, x7, x8, x9, x10, x11, x12, x13, x14, x15, rfl⟩ := Sm.len16 M hM
  have hy : a.eval y = .agg #[.int .i64 m, .int .u8 x0.toNat, .int .u8 x1.toNat, .int .u8 x2.toNat, .int .u8 x3.toNat, .int .u8 x4.toNat, .int .u8 x5.toNat, .int .u8 x6.toNat, .int .u8 x7.toNat, .int .u8 x8.toNat, .int .u8 x9.toNat, .int .u8 x10.toNat, .int .u8 x11.toNat, .int .u8 x12.toNat, .int .u8 x13.toNat, .int .u8 x14.toNat, .int .u8 x15.toNat] := hy
  unfold Oper.wp
  obtain ⟨ev, hev⟩ : ∃ ev, ev = a.eval := ⟨_, rfl⟩
  rw [← hev] at hy ⊢
  clear hev
  unfold execOp
  simp only [ho]
  simp [hy, go_sem]
  go_simp
  exact hk
end Go.Proofs.Ytgoiidpcdifojaa
