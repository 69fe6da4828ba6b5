/- walks: the law RegisterTells -/
import Derived.Test.YtlebanghcbkejaaRgS
namespace Go.Proofs.Ytlebanghcbkejaa
open Go.RowKit
theorem and_range (x y : Int) : -9223372036854775808 ≤ bits .and .i64 x y ∧ bits .and .i64 x y ≤ 9223372036854775807 := by
  simp only [bits]; rw [IntKind.wrap_i64]; omega
theorem wp_min64 {o : Oper} {a : Act} {w : World} {K : Act → World → Prop} {Q : Exit → Act → World → Prop} (x y : Operand) (hop : o.op = .call { callee := .builtin .min, args := #[x, y], argTypes := #[22, 22] }) (p q : Int) (hx : a.eval x = .int .u64 p) (hy : a.eval y = .int .u64 q)
    (h : K (a.put o.dst (.int .u64 (min p q))) w) : o.wp Try.prog a w K Q := by
  unfold Oper.wp
  have hm : (Builtin.min_ #[22, 22] o.type #[.int .u64 p, .int .u64 q]).run Try.prog w = .ok (.int .u64 (min p q)) w := by
    by_cases c : p ≤ q
    · simp [Builtin.min_, Builtin.min2, Int.min_eq_left c, show ¬ q < p by omega]
    · simp [Builtin.min_, Builtin.min2, Int.min_eq_right (by omega : q ≤ p), show q < p by omega]
  simp [execOp, hop, resolve, invoke, builtin, hx, hy, hm, Result.andThen]
  exact h
/-- memory while the base is set -/
def Tx (w : World) (B g : Nat) (r s : Rg) (H : List UInt8) (b c a p : Int) (X : List UInt8) (z : Bool) (w2 : World) : Prop :=
  RB w2 B r ∧ RB w2 (B + 1) s ∧ DB w2 (B + 1 + 1) H ∧ RB w2 g ⟨b, c, if z = true then a else 0, X, p⟩ ∧ Below B w w2
set_option maxHeartbeats 8000000 in
set_option maxRecDepth 100000 in
theorem tells_any (r s : Rg) (ok : r.Ok) (ok' : s.Ok) (hi : r.In) (hi' : s.In) (H : List UInt8) (hH : H.length = 16) (n : Int) (hn0 : 0 ≤ n) (hn1 : n < 18446744073709551616) (w : World) :
    Calls Try.prog 4 #[r.V, s.V, digV H, .int .u64 n] w fun e w' => e = .returned (.bool true) ∧ Below w.heap.size w w' := by
  have S1 := Lib.hid (fun W => same_any r s ok ok' hi H hH W)
  have OK := Lib.hid ok
  have OK' := Lib.hid ok'
  have HI := Lib.hid hi
  have HI' := Lib.hid hi'
  have HH := Lib.hid hH
  obtain ⟨b0, c0, _, l16⟩ := ok
  obtain ⟨b0', c0', _, _⟩ := ok'
  obtain ⟨b1, c1, p0, p1⟩ := hi
  obtain ⟨b1', c1', _, _⟩ := hi'
  obtain ⟨x0, x1, x2, x3, x4, x5, x6, x7, x8, x9, x10, x11, x12, x13, x14, x15, hl⟩ := len16 l16
  have hlit : digV r.l = .agg #[.int .u8 x0.toNat, .int .u8 x1.toNat, .int .u8 x2.toNat, .int .u8 x3.toNat, .int .u8 x4.toNat, .int .u8 x5.toNat, .int .u8 x6.toNat, .int .u8 x7.toNat, .int .u8 x8.toNat, .int .u8 x9.toNat, .int .u8 x10.toNat, .int .u8 x11.toNat, .int .u8 x12.toNat, .int .u8 x13.toNat, .int .u8 x14.toNat, .int .u8 x15.toNat] := by rw [hl]; rfl
  have HLIT := Lib.hid hlit
  have HL := Lib.hid hl
  clear hl hlit l16
  obtain ⟨cs, hcs⟩ : ∃ cs, cs = r.C.toArray := ⟨_, rfl⟩
  have hv : r.V = .agg cs := by rw [hcs]; rfl
  obtain ⟨es, hes⟩ : ∃ cs, cs = s.C.toArray := ⟨_, rfl⟩
  have d0 : cs[0]? = some (.int .u64 r.b) := by rw [hcs]; simpa using r.at0
  have d1 : cs[1]? = some (.int .u64 r.c) := by rw [hcs]; simpa using r.at1
  have d19 : cs[19]? = some (.int .i64 r.p) := by rw [hcs]; simpa using r.at19 OK.out.l16
  have hv2 : s.V = .agg es := by rw [hes]; rfl
  obtain ⟨ds, hds⟩ : ∃ cs, cs = (Lib.byteCells H).toArray := ⟨_, rfl⟩
  have hv' : digV H = .agg ds := by rw [hds]; rfl
  have R : Hid (RB (((w.alloc (.cells cs 27)).alloc (.cells es 27)).alloc (.cells ds 25)) w.heap.size r) := by
    rw [hcs]; exact Lib.hid ⟨OK.out.l16, ((Bk.new rfl _ _).more _).more _⟩
  have S : Hid (RB (((w.alloc (.cells cs 27)).alloc (.cells es 27)).alloc (.cells ds 25)) (w.heap.size + 1) s) := by
    rw [hes]; exact Lib.hid ⟨OK'.out.l16, (Bk.new (by simp) _ _).more _⟩
  have D : Hid (DB (((w.alloc (.cells cs 27)).alloc (.cells es 27)).alloc (.cells ds 25)) (w.heap.size + 1 + 1) H) := by
    rw [hds]; exact Lib.hid ⟨HH.out, Bk.new (by simp) _ _⟩
  have BW := Lib.hid (show Below w.heap.size w (((w.alloc (.cells cs 27)).alloc (.cells es 27)).alloc (.cells ds 25)) from (((Below.refl _ _).alloc (Nat.le_refl _) _).alloc (by simp) _).alloc (by simp; omega) _)
  have sz := Lib.hid (show (((w.alloc (.cells cs 27)).alloc (.cells es 27)).alloc (.cells ds 25)).heap.size = w.heap.size + 1 + 1 + 1 by simp)
  rw [show (Calls Try.prog 4 #[r.V, s.V, digV H, .int .u64 n] w fun e w' => e = .returned (.bool true) ∧ Below w.heap.size w w') = (Calls Try.prog 4 #[.agg cs, .agg es, .agg ds, .int .u64 n] w fun e w' => e = .returned (.bool true) ∧ Below w.heap.size w w') by rw [hv, hv2, hv']]
  clear hv hv2 hv' hcs hes hds hH
  generalize hw1 : ((w.alloc (.cells cs 27)).alloc (.cells es 27)).alloc (.cells ds 25) = w1 at R S D BW sz
  obtain ⟨B, hB⟩ : ∃ B, B = w.heap.size := ⟨_, rfl⟩
  rw [← hB] at R S D sz
  have HW := Lib.hid hw1
  have HB := Lib.hid hB
  clear hw1 hB
  go_enter Try.func4, Try.ntmps4
  go_wp2_with (first | (with_reducible refine stop_load25 ?_) | (with_reducible refine stop_store25 ?_) | (with_reducible refine stop_load27 ?_) | (with_reducible refine stop_store27 ?_))
  rw [HW.out, ← HB.out]
  clear d0 d1 d19
  (with_reducible refine ⟨?_⟩); (with_reducible refine at_any ?_ ?_); (focus go_simp); refine fun K hK => wp_ldrh _ B r rfl rfl R.out (hK _ _ ?_)
  clear hK
  rw [HLIT.out]
  go_wp2_with (first | (with_reducible refine stop_load25 ?_) | (with_reducible refine stop_store25 ?_) | (with_reducible refine stop_load27 ?_) | (with_reducible refine stop_store27 ?_))
  have bw1 : Below B w w1 := by rw [HB.out]; exact BW.out
  have xx2 : ∀ Z, Ex w1 (w1.alloc (.cells Z 27)) := fun Z => (Below.refl _ _).alloc (Nat.le_refl _) _
  have ar := and_range r.p 1
  obtain ⟨b9, hb9⟩ : ∃ b, b = r.b % 9 := ⟨_, rfl⟩
  obtain ⟨c9, hc9⟩ : ∃ b, b = r.c % 40 := ⟨_, rfl⟩
  have b90 : 0 ≤ b9 ∧ b9 < 9 := by omega
  obtain ⟨c90, c91⟩ : 0 ≤ c9 ∧ c9 < 40 := by omega
  rw [← hb9, ← hc9]
  generalize bits BinOp.and IntKind.i64 r.p 1 = p9 at ar ⊢
  clear hb9 hc9
  obtain ⟨X, hX⟩ : ∃ X : List UInt8, X = [x0, x1, x2, x3, x4, x5, x6, x7, x8, x9, x10, x11, x12, x13, x14, x15] := ⟨_, rfl⟩
  have hX16 : X.length = 16 := by rw [hX]; rfl
  (with_reducible refine ⟨?_⟩); (with_reducible refine at_any ?_ ?_); (focus go_simp); refine fun K hK => wp_str _ _ w1.heap.size ⟨b9, c9, 0, X, p9⟩ rfl rfl (by rw [hX]; rfl) hX16 (Bk.new rfl _ _) rfl (fun w2 hd ho => hK _ _ ?_)
  clear hX
  have R2 := Lib.hid (ho.rb (R.out.ext (xx2 _)) (by rw [sz.out]; omega))
  have S2 := Lib.hid (ho.rb (S.out.ext (xx2 _)) (by rw [sz.out]; omega))
  have D2 := Lib.hid (ho.db (D.out.ext (xx2 _)) (by rw [sz.out]; omega))
  have bw2 := ho.below B (by rw [sz.out]; omega) w (Below.trans bw1 ((xx2 zeroRg.C.toArray).mono (by rw [sz.out]; omega)))
  obtain ⟨g, hg⟩ : ∃ g, g = w1.heap.size := ⟨_, rfl⟩
  rw [← hg] at hd ⊢
  have T2 := Lib.hid hd
  have GB := Lib.hid (show B + 2 < g by rw [hg, sz.out]; omega)
  clear R S D bw1 xx2 ho hd hg sz hK BW
  go_wp2_with (first | (with_reducible refine stop_load25 ?_) | (with_reducible refine stop_store25 ?_) | (with_reducible refine stop_load27 ?_) | (with_reducible refine stop_store27 ?_))
  obtain ⟨M, hM⟩ : ∃ M, M = min (c9 + 1) 9 := ⟨_, rfl⟩
  have m0 : 0 < M := by omega
  have q0 : 0 ≤ n.tmod M := Int.tmod_nonneg _ hn0
  have q1 : n.tmod M ≤ c9 := by have := Int.tmod_lt_of_pos n m0; omega
  have m1 : ¬ M = 0 := by omega
  have wu : ∀ x : Int, 0 ≤ x → x < 100 → IntKind.u64.wrap x = x := fun x h0 h1 => by unfold IntKind.wrap; simp [IntKind.signed, IntKind.bits]; omega
  have v1 := wu (c9 + 1) (by omega) (by omega)
  have v2 := wu (c9 - n.tmod M) (by omega) (by omega)
  clear wu
  have HM := Lib.hid hM
  clear hM
  obtain ⟨V, hV⟩ : ∃ V : List Value, V = [.pointer (some ⟨g, 1, none⟩), .int .u64 c9, .int .u64 n, .pointer (some ⟨g, 1, none⟩), .int .u64 c9, .int .u64 (c9 + 1), .int .u64 M, .int .u64 (n.tmod M), .int .u64 (c9 - n.tmod M), .pointer (some ⟨g, 2, none⟩), undef] := ⟨_, rfl⟩
  refine wp_region_val (fun i => V.getD i undef) (fun l => Tx w B g r s H b9 c9 (c9 - n.tmod M) p9 X (l.getD 10 false)) (by kernel_rfl) (by kernel_rfl) (by kernel_rfl) (fitB_spec (by kernel_rfl)) ?_ ?_ ?_
  · intro l h0
    rw [h0]
    exact ⟨R2.out.ext (Below.refl _ _).drew, S2.out.ext (Below.refl _ _).drew, D2.out.ext (Below.refl _ _).drew, T2.out.ext (Below.refl _ _).drew, bw2.drew⟩
  · intro i o ho
    have hi : i < 11 := (Array.getElem?_eq_some_iff.1 ho).1
    have hi' : i = 0 ∨ i = 1 ∨ i = 2 ∨ i = 3 ∨ i = 4 ∨ i = 5 ∨ i = 6 ∨ i = 7 ∨ i = 8 ∨ i = 9 ∨ i = 10 := by omega
    clear hi
    rcases hi' with rfl | rfl | rfl | rfl | rfl | rfl | rfl | rfl | rfl | rfl | rfl
    all_goals (simp only [List.getElem?_toArray, List.getElem?_cons_zero, List.getElem?_cons_succ, Option.some.injEq] at ho; subst ho hV; intro listed a w2 hI hsz hls hun hdep hout)
    · rw [if_pos (by rfl)]
      intro K hK
      have q9 := hout 9 (outB_spec (by kernel_rfl))
      clear hsz hdep hout hun
      go_simp
      exact hK _ (by show Tx w B g r s H b9 c9 (c9 - n.tmod M) p9 X ((listed.setIfInBounds 0 true).getD 10 false) _; rw [bit_set (by decide)]; exact hI)
    · rw [if_pos (by rfl)]
      intro K hK
      have q22 := (hdep ⟨0, .data⟩ (by simp) rfl).2 _ rfl _ rfl
      have q22 : a.tmps.getD 22 undef = .pointer (some ⟨g, 1, none⟩) := q22
      have f1 : w2.cell? ⟨g, 1, none⟩ = some (.int .u64 c9) := (hI.2.2.2.1.2.cell 1).trans (by simpa using Rg.at1 ⟨b9, c9, if listed.getD 10 false = true then c9 - n.tmod M else 0, X, p9⟩)
      clear hsz hdep hout hun
      go_simp
      exact hK _ (by show Tx w B g r s H b9 c9 (c9 - n.tmod M) p9 X ((listed.setIfInBounds 1 true).getD 10 false) _; rw [bit_set (by decide)]; exact hI)
    · rw [if_pos (by rfl)]
      intro K hK
      have q3 := hout 3 (outB_spec (by kernel_rfl))
      clear hsz hdep hout hun
      go_simp
      exact hK _ (by show Tx w B g r s H b9 c9 (c9 - n.tmod M) p9 X ((listed.setIfInBounds 2 true).getD 10 false) _; rw [bit_set (by decide)]; exact hI)
    · rw [if_pos (by rfl)]
      intro K hK
      have q9 := hout 9 (outB_spec (by kernel_rfl))
      clear hsz hdep hout hun
      go_simp
      exact hK _ (by show Tx w B g r s H b9 c9 (c9 - n.tmod M) p9 X ((listed.setIfInBounds 3 true).getD 10 false) _; rw [bit_set (by decide)]; exact hI)
    · rw [if_pos (by rfl)]
      intro K hK
      have q25 := (hdep ⟨3, .data⟩ (by simp) rfl).2 _ rfl _ rfl
      have q25 : a.tmps.getD 25 undef = .pointer (some ⟨g, 1, none⟩) := q25
      have f1 : w2.cell? ⟨g, 1, none⟩ = some (.int .u64 c9) := (hI.2.2.2.1.2.cell 1).trans (by simpa using Rg.at1 ⟨b9, c9, if listed.getD 10 false = true then c9 - n.tmod M else 0, X, p9⟩)
      clear hsz hdep hout hun
      go_simp
      exact hK _ (by show Tx w B g r s H b9 c9 (c9 - n.tmod M) p9 X ((listed.setIfInBounds 4 true).getD 10 false) _; rw [bit_set (by decide)]; exact hI)
    · rw [if_pos (by rfl)]
      intro K hK
      have q26 := (hdep ⟨4, .data⟩ (by simp) rfl).2 _ rfl _ rfl
      have q26 : a.tmps.getD 26 undef = .int .u64 c9 := q26
      clear hsz hdep hout hun
      go_simp
      exact hK _ (by show Tx w B g r s H b9 c9 (c9 - n.tmod M) p9 X ((listed.setIfInBounds 5 true).getD 10 false) _; rw [bit_set (by decide)]; exact hI)
    · rw [if_pos (by rfl)]
      intro K hK
      have q27 := (hdep ⟨5, .data⟩ (by simp) rfl).2 _ rfl _ rfl
      have q27 : a.tmps.getD 27 undef = .int .u64 (c9 + 1) := q27
      refine wp_min64 (.tmp 27) (.const (.int .u64 9)) rfl (c9 + 1) 9 (by simpa [Act.eval, Array.getD_eq_getD_getElem?] using q27) rfl ?_
      rw [← HM.out]
      exact hK _ (by show Tx w B g r s H b9 c9 (c9 - n.tmod M) p9 X ((listed.setIfInBounds 6 true).getD 10 false) _; rw [bit_set (by decide)]; exact hI)
    · rw [if_pos (by rfl)]
      intro K hK
      have q24 := (hdep ⟨2, .data⟩ (by simp) rfl).2 _ rfl _ rfl
      have q24 : a.tmps.getD 24 undef = .int .u64 n := q24
      have q28 := (hdep ⟨6, .data⟩ (by simp) rfl).2 _ rfl _ rfl
      have q28 : a.tmps.getD 28 undef = .int .u64 M := q28
      clear hsz hdep hout hun
      go_simp
      exact hK _ (by show Tx w B g r s H b9 c9 (c9 - n.tmod M) p9 X ((listed.setIfInBounds 7 true).getD 10 false) _; rw [bit_set (by decide)]; exact hI)
    · rw [if_pos (by rfl)]
      intro K hK
      have q23 := (hdep ⟨1, .data⟩ (by simp) rfl).2 _ rfl _ rfl
      have q23 : a.tmps.getD 23 undef = .int .u64 c9 := q23
      have q29 := (hdep ⟨7, .data⟩ (by simp) rfl).2 _ rfl _ rfl
      have q29 : a.tmps.getD 29 undef = .int .u64 (n.tmod M) := q29
      clear hsz hdep hout hun
      go_simp
      exact hK _ (by show Tx w B g r s H b9 c9 (c9 - n.tmod M) p9 X ((listed.setIfInBounds 8 true).getD 10 false) _; rw [bit_set (by decide)]; exact hI)
    · rw [if_pos (by rfl)]
      intro K hK
      have q9 := hout 9 (outB_spec (by kernel_rfl))
      clear hsz hdep hout hun
      go_simp
      exact hK _ (by show Tx w B g r s H b9 c9 (c9 - n.tmod M) p9 X ((listed.setIfInBounds 9 true).getD 10 false) _; rw [bit_set (by decide)]; exact hI)
    · rw [if_pos (by rfl)]
      intro K hK
      have q31 := (hdep ⟨9, .data⟩ (by simp) rfl).2 _ rfl _ rfl
      have q31 : a.tmps.getD 31 undef = .pointer (some ⟨g, 2, none⟩) := q31
      have q30 := (hdep ⟨8, .data⟩ (by simp) rfl).2 _ rfl _ rfl
      have q30 : a.tmps.getD 30 undef = .int .u64 (c9 - n.tmod M) := q30
      have f1 : w2.cell? ⟨g, 2, none⟩ = some (.int .u64 (if listed.getD 10 false = true then c9 - n.tmod M else 0)) := (hI.2.2.2.1.2.cell 2).trans (by simpa using Rg.at2 ⟨b9, c9, if listed.getD 10 false = true then c9 - n.tmod M else 0, X, p9⟩)
      have r1 : w2.frozen? ⟨g, 2, none⟩ = false := hI.2.2.2.1.2.fr 2
      have hne : g ≠ B ∧ g ≠ B + 1 ∧ g ≠ B + 1 + 1 := by have := GB.out; omega
      clear hsz hdep hout hun
      go_simp
      refine hK _ ?_
      show Tx w B g r s H b9 c9 (c9 - n.tmod M) p9 X ((listed.setIfInBounds 10 true).getD 10 false) _
      rw [bit_new (by rw [hls]; decide)]
      exact ⟨hI.1.far hne.1.symm, hI.2.1.far hne.2.1.symm, hI.2.2.1.far hne.2.2.symm, hI.2.2.2.1.put2 _, hI.2.2.2.2.setCell (p := ⟨g, 2, none⟩) (by have := GB.out; show B ≤ g; omega) _⟩
  · intro l w4 hall hI
    rw [hall 10 (by decide)] at hI
    obtain ⟨h1, h2, h3, h4, bw4⟩ := hI
    have R4 := Lib.hid h1
    have S4 := Lib.hid h2
    have D4 := Lib.hid h3
    have T4 : Hid (RB w4 g ⟨b9, c9, c9 - n.tmod M, X, p9⟩) := Lib.hid h4
    clear h1 h2 h3 h4 R2 S2 D2 T2 bw2
    subst hV
    simp only [putAll, List.getD_cons_zero, List.getD_cons_succ, Act.put, List.setIfInBounds_toArray, List.set_cons_zero, List.set_cons_succ]
    obtain ⟨T, hT⟩ : ∃ T : Rg, T = ⟨b9, c9, c9 - n.tmod M, X, p9⟩ := ⟨_, rfl⟩
    rw [← hT] at T4
    have okT : T.Ok := by rw [hT]; exact ⟨b90.1, c90, (by show 0 ≤ c9 - n.tmod M; omega), hX16⟩
    have inT : T.In := by rw [hT]; exact ⟨(by show b9 < _; omega), (by show c9 < _; omega), ar.1, ar.2⟩
    have C2 := Lib.hid (fun W => same_any T r okT OK.out inT H HH.out W)
    have okU : Rg.Ok ⟨s.b % 9, s.c % 40, 0, zeroL, 0⟩ := ⟨(by show 0 ≤ s.b % 9; omega), (by show 0 ≤ s.c % 40; omega), (by show (0:Int) ≤ 0; omega), rfl⟩
    have hU : Value.agg #[.int .u64 (s.b % 9), .int .u64 (s.c % 40), .int .u64 0, .int .u8 0, .int .u8 0, .int .u8 0, .int .u8 0, .int .u8 0, .int .u8 0, .int .u8 0, .int .u8 0, .int .u8 0, .int .u8 0, .int .u8 0, .int .u8 0, .int .u8 0, .int .u8 0, .int .u8 0, .int .u8 0, .int .i64 0] = Rg.V ⟨s.b % 9, s.c % 40, 0, zeroL, 0⟩ := rfl
    have C3 : Hid (∀ W : World, Calls Try.prog 11 #[T.V, .agg #[.int .u64 (s.b % 9), .int .u64 (s.c % 40), .int .u64 0, .int .u8 0, .int .u8 0, .int .u8 0, .int .u8 0, .int .u8 0, .int .u8 0, .int .u8 0, .int .u8 0, .int .u8 0, .int .u8 0, .int .u8 0, .int .u8 0, .int .u8 0, .int .u8 0, .int .u8 0, .int .u8 0, .int .i64 0], digV H] W fun e w' => e = .returned (.bool true) ∧ Below W.heap.size W w') := by
      rw [hU]; exact Lib.hid fun W => same_any T ⟨s.b % 9, s.c % 40, 0, zeroL, 0⟩ okT okU inT H HH.out W
    have C4 := Lib.hid known_any
    clear hU
    clear okT inT okU hT hX16 m1 v1 v2 q0 q1 m0 ar hn0 hn1 b90 c90 c91
    go_wp2_with (first | (with_reducible refine stop_load25 ?_) | (with_reducible refine stop_store25 ?_) | (with_reducible refine stop_load27 ?_) | (with_reducible refine stop_store27 ?_))
    (with_reducible refine ⟨?_⟩); (with_reducible refine at_any ?_ ?_); (focus go_simp); refine fun K hK => wp_ldr _ _ r rfl rfl R4.out (hK _ _ ?_)
    clear hK
    go_wp2_with (first | (with_reducible refine stop_load25 ?_) | (with_reducible refine stop_store25 ?_) | (with_reducible refine stop_load27 ?_) | (with_reducible refine stop_store27 ?_))
    (with_reducible refine ⟨?_⟩); (with_reducible refine at_any ?_ ?_); (focus go_simp); refine fun K hK => wp_ldr _ _ s rfl rfl S4.out (hK _ _ ?_)
    clear hK
    go_wp2_with (first | (with_reducible refine stop_load25 ?_) | (with_reducible refine stop_store25 ?_) | (with_reducible refine stop_load27 ?_) | (with_reducible refine stop_store27 ?_))
    (with_reducible refine ⟨?_⟩); (with_reducible refine at_any ?_ ?_); (focus go_simp); refine fun K hK => wp_ldh _ _ H rfl rfl D4.out (hK _ _ ?_)
    clear hK
    go_wp2_with (first | (with_reducible refine stop_load25 ?_) | (with_reducible refine stop_store25 ?_) | (with_reducible refine stop_load27 ?_) | (with_reducible refine stop_store27 ?_))
    refine (S1.out _).mono ?_
    rintro e w5 ⟨rfl, x5⟩
    have R5 := Lib.hid (R4.out.ext x5)
    have S5 := Lib.hid (S4.out.ext x5)
    have D5 := Lib.hid (D4.out.ext x5)
    have T5 := Lib.hid (T4.out.ext x5)
    have bw5 : Below B w w5 := bw4.trans (x5.mono (Nat.le_of_lt R4.out.lt))
    clear R4 S4 D4 T4 bw4 x5 S1
    go_wp2_with (first | (with_reducible refine stop_load25 ?_) | (with_reducible refine stop_store25 ?_) | (with_reducible refine stop_load27 ?_) | (with_reducible refine stop_store27 ?_))
    (with_reducible refine ⟨?_⟩); (with_reducible refine at_any ?_ ?_); (focus go_simp); refine fun K hK => wp_ldr _ _ T rfl rfl T5.out (hK _ _ ?_)
    clear hK
    go_wp2_with (first | (with_reducible refine stop_load25 ?_) | (with_reducible refine stop_store25 ?_) | (with_reducible refine stop_load27 ?_) | (with_reducible refine stop_store27 ?_))
    (with_reducible refine ⟨?_⟩); (with_reducible refine at_any ?_ ?_); (focus go_simp); refine fun K hK => wp_ldr _ _ r rfl rfl R5.out (hK _ _ ?_)
    clear hK
    go_wp2_with (first | (with_reducible refine stop_load25 ?_) | (with_reducible refine stop_store25 ?_) | (with_reducible refine stop_load27 ?_) | (with_reducible refine stop_store27 ?_))
    (with_reducible refine ⟨?_⟩); (with_reducible refine at_any ?_ ?_); (focus go_simp); refine fun K hK => wp_ldh _ _ H rfl rfl D5.out (hK _ _ ?_)
    clear hK
    go_wp2_with (first | (with_reducible refine stop_load25 ?_) | (with_reducible refine stop_store25 ?_) | (with_reducible refine stop_load27 ?_) | (with_reducible refine stop_store27 ?_))
    refine (C2.out _).mono ?_
    rintro e w6 ⟨rfl, x6⟩
    have S6 := Lib.hid (S5.out.ext x6)
    have D6 := Lib.hid (D5.out.ext x6)
    have T6 := Lib.hid (T5.out.ext x6)
    have bw6 : Below B w w6 := bw5.trans (x6.mono (Nat.le_of_lt R5.out.lt))
    clear R5 S5 D5 T5 bw5 x6 C2
    have f0 : w6.cell? ⟨B + 1, 0, none⟩ = some (.int .u64 s.b) := (S6.out.2.cell 0).trans (by simpa using s.at0)
    have f1 : w6.cell? ⟨B + 1, 1, none⟩ = some (.int .u64 s.c) := (S6.out.2.cell 1).trans (by simpa using s.at1)
    go_wp2_with (first | (with_reducible refine stop_load25 ?_) | (with_reducible refine stop_store25 ?_) | (with_reducible refine stop_load27 ?_) | (with_reducible refine stop_store27 ?_))
    (with_reducible refine ⟨?_⟩); (with_reducible refine at_any ?_ ?_); (focus go_simp); refine fun K hK => wp_ldr _ _ T rfl rfl T6.out (hK _ _ ?_)
    clear hK
    go_wp2_with (first | (with_reducible refine stop_load25 ?_) | (with_reducible refine stop_store25 ?_) | (with_reducible refine stop_load27 ?_) | (with_reducible refine stop_store27 ?_))
    (with_reducible refine ⟨?_⟩); (with_reducible refine at_any ?_ ?_); (focus go_simp); refine fun K hK => wp_ldh _ _ H rfl rfl D6.out (hK _ _ ?_)
    clear hK
    go_wp2_with (first | (with_reducible refine stop_load25 ?_) | (with_reducible refine stop_store25 ?_) | (with_reducible refine stop_load27 ?_) | (with_reducible refine stop_store27 ?_))
    refine (C3.out _).mono ?_
    rintro e w7 ⟨rfl, x7⟩
    have bw7 : Below B w w7 := bw6.trans (x7.mono (Nat.le_of_lt (Nat.lt_of_succ_lt S6.out.lt)))
    have hB7 : B ≤ w7.heap.size := Nat.le_trans (Nat.le_of_lt (Nat.lt_of_succ_lt S6.out.lt)) x7.size
    clear S6 D6 T6 bw6 x7 C3 f0 f1
    go_wp2_with (first | (with_reducible refine stop_load25 ?_) | (with_reducible refine stop_store25 ?_) | (with_reducible refine stop_load27 ?_) | (with_reducible refine stop_store27 ?_))
    refine (C4.out _).mono ?_
    rintro e w8 ⟨rfl, x8⟩
    have bw8 : Below B w w8 := bw7.trans (x8.mono hB7)
    go_wp2_with (first | (with_reducible refine stop_load25 ?_) | (with_reducible refine stop_store25 ?_) | (with_reducible refine stop_load27 ?_) | (with_reducible refine stop_store27 ?_))
    go_ret
    rw [HB.out] at bw8
    exact ⟨rfl, bw8⟩
end Go.Proofs.Ytlebanghcbkejaa
