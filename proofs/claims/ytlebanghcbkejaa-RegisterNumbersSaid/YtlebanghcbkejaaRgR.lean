/- the reference's Fold for any register -/
import Derived.Test.YtlebanghcbkejaaRgQ
namespace Go.Proofs.Ytlebanghcbkejaa
open Go.RowKit
/-- memory while a register is made anew -/
def Fx (w : World) (B g : Nat) (r : Rg) (H : List UInt8) (p : Int) (Z : Array Value) (b7 b9 b11 : Bool) (w2 : World) : Prop :=
  RB w2 B r ∧ DB w2 (B + 1) H ∧ Bk w2 (B + 1 + 1) 27 Z ∧ RB w2 g ⟨r.b, r.c, if b7 = true then r.c else r.a, if b11 = true then H else r.l, if b9 = true then p else r.p⟩ ∧ Below B w w2
set_option maxHeartbeats 4000000 in
set_option maxRecDepth 100000 in
theorem rfold_to (r : Rg) (ok : r.Ok) (H : List UInt8) (hH : H.length = 16) (w : World) :
    Calls Try.prog 29 #[r.V, digV H] w fun e w' => e = .returned (foldW r H (IntKind.i64.wrap (1 - r.p))) ∧ Below w.heap.size w w' := by
  have ST := Lib.hid (fun W => kept_ref r (r.foldTo H (IntKind.i64.wrap (1 - r.p))) ok ⟨ok.b0, ok.c0, ok.c0, hH⟩ W)
  have HR := Lib.hid ok.l16
  have HK := Lib.hid (kept_len r (r.foldTo H (IntKind.i64.wrap (1 - r.p))) hH)
  have HH := Lib.hid hH
  obtain ⟨cs, hcs⟩ : ∃ cs, cs = r.C.toArray := ⟨_, rfl⟩
  have hv : r.V = .agg cs := by rw [hcs]; rfl
  obtain ⟨ds, hds⟩ : ∃ cs, cs = (Lib.byteCells H).toArray := ⟨_, rfl⟩
  have hv' : digV H = .agg ds := by rw [hds]; rfl
  have R0 : Hid (∀ Z, RB (((w.alloc (.cells cs 27)).alloc (.cells ds 25)).alloc (.cells Z 27)) w.heap.size r) := by
    rw [hcs]; exact Lib.hid fun Z => ⟨HR.out, ((Bk.new rfl _ _).more _).more _⟩
  have H0 : Hid (∀ Z, DB (((w.alloc (.cells cs 27)).alloc (.cells ds 25)).alloc (.cells Z 27)) (w.heap.size + 1) H) := by
    rw [hds]; exact Lib.hid fun Z => ⟨HH.out, (Bk.new (by simp) _ _).more _⟩
  have Z0 : Hid (∀ Z, Bk (((w.alloc (.cells cs 27)).alloc (.cells ds 25)).alloc (.cells Z 27)) (w.heap.size + 1 + 1) 27 Z) := Lib.hid fun Z => Bk.new (by simp) _ _
  have bw : ∀ Z, Below w.heap.size w (((w.alloc (.cells cs 27)).alloc (.cells ds 25)).alloc (.cells Z 27)) := fun Z => (((Below.refl _ _).alloc (Nat.le_refl _) _).alloc (by simp) _).alloc (by simp; omega) _
  have BW := Lib.hid bw
  have sz : ∀ Z, (((w.alloc (.cells cs 27)).alloc (.cells ds 25)).alloc (.cells Z 27)).heap.size = w.heap.size + 1 + 1 + 1 := fun Z => by simp
  have SZ := Lib.hid sz
  have ha0 := ok.a0
  have hc0 := ok.c0
  obtain ⟨s, hs⟩ : ∃ s, s = r.foldTo H (IntKind.i64.wrap (1 - r.p)) := ⟨_, rfl⟩
  have hs2 : (⟨r.b, r.c, r.c, H, (IntKind.i64.wrap (1 - r.p))⟩ : Rg) = s := by rw [hs]; rfl
  rw [← hs] at ST HK
  have HS := Lib.hid hs2
  obtain ⟨q, hq⟩ : ∃ q, q = (r.right && s.right) := ⟨_, rfl⟩
  obtain ⟨k, hk⟩ : ∃ k, k = (if (r.right && s.right) = true then s else zeroRg) := ⟨_, rfl⟩
  have hkv : foldW r H (IntKind.i64.wrap (1 - r.p)) = if r.c ≤ r.a then .tuple #[zeroRg.V, .bool false] else .tuple #[k.V, .bool q] := by rw [hk, hq, hs]; rfl
  rw [← hk, ← hq] at ST
  rw [← hk] at HK
  obtain ⟨kk, qq, hkk, E1, E2⟩ : ∃ (kk : Rg) (qq : Bool), foldW r H (IntKind.i64.wrap (1 - r.p)) = .tuple #[kk.V, .bool qq] ∧ (r.c ≤ r.a → kk = zeroRg ∧ qq = false) ∧ (r.a < r.c → kk = k ∧ qq = q) := by
    rw [hkv]
    by_cases hle : r.c ≤ r.a
    · exact ⟨zeroRg, false, by rw [if_pos hle], fun _ => ⟨rfl, rfl⟩, fun h => absurd h (by omega)⟩
    · exact ⟨k, q, by rw [if_neg hle], fun h => absurd h hle, fun _ => ⟨rfl, rfl⟩⟩
  replace E1 := Lib.hid E1
  replace E2 := Lib.hid E2
  rw [hkk]
  clear hk hq hkv hkk
  rw [hv, hv']
  clear hv hv' hcs hds bw sz hs hs2 ok hH
  go_enter Try.func29, Try.ntmps29
  go_wp2_with (first | (with_reducible refine stop_load25 ?_) | (with_reducible refine stop_store25 ?_) | (with_reducible refine stop_load27 ?_) | (with_reducible refine stop_store27 ?_))
  generalize hw1 : ((w.alloc (.cells cs 27)).alloc (.cells ds 25)).alloc (.cells _ 27) = w1
  obtain ⟨B, hB⟩ : ∃ B, B = w.heap.size := ⟨_, rfl⟩
  have R1 : RB w1 B r := by rw [← hw1, hB]; exact R0.out _
  have H1 : DB w1 (B + 1) H := by rw [← hw1, hB]; exact H0.out _
  have ⟨Z, zl, Z1⟩ : ∃ Z : Array Value, Z.size = 20 ∧ Bk w1 (B + 1 + 1) 27 Z := ⟨zeroRg.C.toArray, rfl, by rw [← hw1, hB]; exact Z0.out _⟩
  have bw1 : Below B w w1 := by rw [← hw1, hB]; exact BW.out _
  have sz1 : B + 3 ≤ w1.heap.size := by rw [← hw1, hB, SZ.out _]; omega
  rw [← hB]
  replace hB := Lib.hid hB
  clear R0 H0 Z0 BW SZ hw1
  (with_reducible refine ⟨?_⟩); (with_reducible refine at_any ?_ ?_); (focus go_simp); refine fun K hK => wp_ldr _ _ r rfl rfl R1 (hK _ _ ?_)
  clear hK
  go_wp2_with (first | (with_reducible refine stop_load25 ?_) | (with_reducible refine stop_store25 ?_) | (with_reducible refine stop_load27 ?_) | (with_reducible refine stop_store27 ?_))
  have x2 : ∀ Z, Ex w1 (w1.alloc (.cells Z 27)) := fun Z => (Below.refl _ _).alloc (Nat.le_refl _) _
  (with_reducible refine ⟨?_⟩); (with_reducible refine at_any ?_ ?_); (focus go_simp); refine fun K hK => wp_str _ _ w1.heap.size r rfl rfl rfl HR.out (Bk.new rfl _ _) rfl (fun w2 hd ho => hK _ _ ?_)
  have R2 := Lib.hid (ho.rb (R1.ext (x2 _)) (by omega))
  have H2 := Lib.hid (ho.db (H1.ext (x2 _)) (by omega))
  have Z2 := Lib.hid (ho.bk (Z1.ext (x2 _)) (by omega))
  have bw2 := ho.below B (by omega) w (Below.trans bw1 ((x2 zeroRg.C.toArray).mono (by omega)))
  obtain ⟨g, hg⟩ : ∃ g, g = w1.heap.size := ⟨_, rfl⟩
  rw [← hg] at hd ⊢
  have S2 := Lib.hid hd
  have gB : B + 2 < g := by omega
  have GB := Lib.hid gB
  clear R1 H1 Z1 bw1 x2 ho hd hg sz1 hK
  go_wp2_with (first | (with_reducible refine stop_load25 ?_) | (with_reducible refine stop_store25 ?_) | (with_reducible refine stop_load27 ?_) | (with_reducible refine stop_store27 ?_))
  obtain ⟨V, hV⟩ : ∃ V : List Value, V = [.pointer (some ⟨B, 1, none⟩), .int .u64 r.c, .pointer (some ⟨B, 19, none⟩), .int .i64 r.p, .int .i64 (IntKind.i64.wrap (1 - r.p)), digV H, .pointer (some ⟨g, 2, none⟩), undef, .pointer (some ⟨g, 19, none⟩), undef, .pointer (some ⟨g, 3, none⟩), undef] := ⟨_, rfl⟩
  refine wp_region_val (fun i => V.getD i undef) (fun l => Fx w B g r H (IntKind.i64.wrap (1 - r.p)) Z (l.getD 7 false) (l.getD 9 false) (l.getD 11 false)) (by kernel_rfl) (by kernel_rfl) (by kernel_rfl) (fitB_spec (by kernel_rfl)) ?_ ?_ ?_
  · intro l h0
    rw [h0, h0, h0]
    exact ⟨R2.out.ext (Below.refl _ _).drew, H2.out.ext (Below.refl _ _).drew, Z2.out.ext (Below.refl _ _).drew, S2.out.ext (Below.refl _ _).drew, bw2.drew⟩
  · intro i o ho
    have hi : i < 12 := (Array.getElem?_eq_some_iff.1 ho).1
    have hi' : i = 0 ∨ i = 1 ∨ i = 2 ∨ i = 3 ∨ i = 4 ∨ i = 5 ∨ i = 6 ∨ i = 7 ∨ i = 8 ∨ i = 9 ∨ i = 10 ∨ i = 11 := by omega
    clear hi
    rcases hi' with rfl | rfl | rfl | rfl | rfl | rfl | rfl | rfl | rfl | rfl | rfl | rfl
    all_goals (simp only [List.getElem?_toArray, List.getElem?_cons_zero, List.getElem?_cons_succ, Option.some.injEq] at ho; subst ho hV; intro listed a w2 hI hsz hls hun hdep hout)
    · rw [if_pos (by rfl)]
      intro K hK
      have q2 := hout 2 (outB_spec (by kernel_rfl))
      clear hsz hdep hout hun
      go_simp
      exact hK _ (by show Fx w B g r H (IntKind.i64.wrap (1 - r.p)) Z ((listed.setIfInBounds 0 true).getD 7 false) ((listed.setIfInBounds 0 true).getD 9 false) ((listed.setIfInBounds 0 true).getD 11 false) _; rw [bit_set (by decide), bit_set (by decide), bit_set (by decide)]; exact hI)
    · rw [if_pos (by rfl)]
      intro K hK
      have q8 := (hdep ⟨0, .data⟩ (by simp) rfl).2 _ rfl _ rfl
      have q8 : a.tmps.getD 8 undef = .pointer (some ⟨B, 1, none⟩) := q8
      have f1 : w2.cell? ⟨B, 1, none⟩ = some (.int .u64 r.c) := (hI.1.2.cell 1).trans (by simpa using r.at1)
      clear hsz hdep hout hun
      go_simp
      exact hK _ (by show Fx w B g r H (IntKind.i64.wrap (1 - r.p)) Z ((listed.setIfInBounds 1 true).getD 7 false) ((listed.setIfInBounds 1 true).getD 9 false) ((listed.setIfInBounds 1 true).getD 11 false) _; rw [bit_set (by decide), bit_set (by decide), bit_set (by decide)]; exact hI)
    · rw [if_pos (by rfl)]
      intro K hK
      have q2 := hout 2 (outB_spec (by kernel_rfl))
      clear hsz hdep hout hun
      go_simp
      exact hK _ (by show Fx w B g r H (IntKind.i64.wrap (1 - r.p)) Z ((listed.setIfInBounds 2 true).getD 7 false) ((listed.setIfInBounds 2 true).getD 9 false) ((listed.setIfInBounds 2 true).getD 11 false) _; rw [bit_set (by decide), bit_set (by decide), bit_set (by decide)]; exact hI)
    · rw [if_pos (by rfl)]
      intro K hK
      have q10 := (hdep ⟨2, .data⟩ (by simp) rfl).2 _ rfl _ rfl
      have q10 : a.tmps.getD 10 undef = .pointer (some ⟨B, 19, none⟩) := q10
      have f1 : w2.cell? ⟨B, 19, none⟩ = some (.int .i64 r.p) := (hI.1.2.cell 19).trans (by simpa using r.at19 HR.out)
      clear hsz hdep hout hun
      go_simp
      exact hK _ (by show Fx w B g r H (IntKind.i64.wrap (1 - r.p)) Z ((listed.setIfInBounds 3 true).getD 7 false) ((listed.setIfInBounds 3 true).getD 9 false) ((listed.setIfInBounds 3 true).getD 11 false) _; rw [bit_set (by decide), bit_set (by decide), bit_set (by decide)]; exact hI)
    · rw [if_pos (by rfl)]
      intro K hK
      have q11 := (hdep ⟨3, .data⟩ (by simp) rfl).2 _ rfl _ rfl
      have q11 : a.tmps.getD 11 undef = .int .i64 r.p := q11
      clear hsz hdep hout hun
      go_simp
      exact hK _ (by show Fx w B g r H (IntKind.i64.wrap (1 - r.p)) Z ((listed.setIfInBounds 4 true).getD 7 false) ((listed.setIfInBounds 4 true).getD 9 false) ((listed.setIfInBounds 4 true).getD 11 false) _; rw [bit_set (by decide), bit_set (by decide), bit_set (by decide)]; exact hI)
    · rw [if_pos (by rfl)]
      intro K hK
      have q3 := hout 3 (outB_spec (by kernel_rfl))
      refine wp_ldh _ (B + 1) H rfl q3 hI.2.1 (hK _ ?_)
      show Fx w B g r H (IntKind.i64.wrap (1 - r.p)) Z ((listed.setIfInBounds 5 true).getD 7 false) ((listed.setIfInBounds 5 true).getD 9 false) ((listed.setIfInBounds 5 true).getD 11 false) _; rw [bit_set (by decide), bit_set (by decide), bit_set (by decide)]; exact hI
    · rw [if_pos (by rfl)]
      intro K hK
      have q6 := hout 6 (outB_spec (by kernel_rfl))
      clear hsz hdep hout hun
      go_simp
      exact hK _ (by show Fx w B g r H (IntKind.i64.wrap (1 - r.p)) Z ((listed.setIfInBounds 6 true).getD 7 false) ((listed.setIfInBounds 6 true).getD 9 false) ((listed.setIfInBounds 6 true).getD 11 false) _; rw [bit_set (by decide), bit_set (by decide), bit_set (by decide)]; exact hI)
    · rw [if_pos (by rfl)]
      intro K hK
      have q14 := (hdep ⟨6, .data⟩ (by simp) rfl).2 _ rfl _ rfl
      have q14 : a.tmps.getD 14 undef = .pointer (some ⟨g, 2, none⟩) := q14
      have q9 := (hdep ⟨1, .data⟩ (by simp) rfl).2 _ rfl _ rfl
      have q9 : a.tmps.getD 9 undef = .int .u64 r.c := q9
      have f1 : w2.cell? ⟨g, 2, none⟩ = some (.int .u64 (if listed.getD 7 false = true then r.c else r.a)) := (hI.2.2.2.1.2.cell 2).trans (by simpa using Rg.at2 ⟨r.b, r.c, if listed.getD 7 false = true then r.c else r.a, if listed.getD 11 false = true then H else r.l, if listed.getD 9 false = true then (IntKind.i64.wrap (1 - r.p)) else r.p⟩)
      have r1 : w2.frozen? ⟨g, 2, none⟩ = false := hI.2.2.2.1.2.fr 2
      have hne : g ≠ B ∧ g ≠ B + 1 ∧ g ≠ B + 1 + 1 := by have := GB.out; omega
      clear hsz hdep hout hun
      go_simp
      refine hK _ ?_
      show Fx w B g r H (IntKind.i64.wrap (1 - r.p)) Z ((listed.setIfInBounds 7 true).getD 7 false) ((listed.setIfInBounds 7 true).getD 9 false) ((listed.setIfInBounds 7 true).getD 11 false) _
      rw [bit_new (by rw [hls]; decide), bit_set (by decide), bit_set (by decide)]
      exact ⟨hI.1.far hne.1.symm, hI.2.1.far hne.2.1.symm, hI.2.2.1.far hne.2.2.symm, hI.2.2.2.1.put2 _, hI.2.2.2.2.setCell (p := ⟨g, 2, none⟩) (by have := GB.out; show B ≤ g; omega) _⟩
    · rw [if_pos (by rfl)]
      intro K hK
      have q6 := hout 6 (outB_spec (by kernel_rfl))
      clear hsz hdep hout hun
      go_simp
      exact hK _ (by show Fx w B g r H (IntKind.i64.wrap (1 - r.p)) Z ((listed.setIfInBounds 8 true).getD 7 false) ((listed.setIfInBounds 8 true).getD 9 false) ((listed.setIfInBounds 8 true).getD 11 false) _; rw [bit_set (by decide), bit_set (by decide), bit_set (by decide)]; exact hI)
    · rw [if_pos (by rfl)]
      intro K hK
      have q15 := (hdep ⟨8, .data⟩ (by simp) rfl).2 _ rfl _ rfl
      have q15 : a.tmps.getD 15 undef = .pointer (some ⟨g, 19, none⟩) := q15
      have q12 := (hdep ⟨4, .data⟩ (by simp) rfl).2 _ rfl _ rfl
      have q12 : a.tmps.getD 12 undef = .int .i64 (IntKind.i64.wrap (1 - r.p)) := q12
      have f1 : w2.cell? ⟨g, 19, none⟩ = some (.int .i64 (if listed.getD 9 false = true then (IntKind.i64.wrap (1 - r.p)) else r.p)) := (hI.2.2.2.1.2.cell 19).trans (by simpa using Rg.at19 ⟨r.b, r.c, if listed.getD 7 false = true then r.c else r.a, if listed.getD 11 false = true then H else r.l, if listed.getD 9 false = true then (IntKind.i64.wrap (1 - r.p)) else r.p⟩ hI.2.2.2.1.1)
      have r1 : w2.frozen? ⟨g, 19, none⟩ = false := hI.2.2.2.1.2.fr 19
      have hne : g ≠ B ∧ g ≠ B + 1 ∧ g ≠ B + 1 + 1 := by have := GB.out; omega
      clear hsz hdep hout hun
      go_simp
      refine hK _ ?_
      show Fx w B g r H (IntKind.i64.wrap (1 - r.p)) Z ((listed.setIfInBounds 9 true).getD 7 false) ((listed.setIfInBounds 9 true).getD 9 false) ((listed.setIfInBounds 9 true).getD 11 false) _
      rw [bit_new (by rw [hls]; decide), bit_set (by decide), bit_set (by decide)]
      exact ⟨hI.1.far hne.1.symm, hI.2.1.far hne.2.1.symm, hI.2.2.1.far hne.2.2.symm, hI.2.2.2.1.put19 _, hI.2.2.2.2.setCell (p := ⟨g, 19, none⟩) (by have := GB.out; show B ≤ g; omega) _⟩
    · rw [if_pos (by rfl)]
      intro K hK
      have q6 := hout 6 (outB_spec (by kernel_rfl))
      clear hsz hdep hout hun
      go_simp
      exact hK _ (by show Fx w B g r H (IntKind.i64.wrap (1 - r.p)) Z ((listed.setIfInBounds 10 true).getD 7 false) ((listed.setIfInBounds 10 true).getD 9 false) ((listed.setIfInBounds 10 true).getD 11 false) _; rw [bit_set (by decide), bit_set (by decide), bit_set (by decide)]; exact hI)
    · rw [if_pos (by rfl)]
      intro K hK
      have q16 := (hdep ⟨10, .data⟩ (by simp) rfl).2 _ rfl _ rfl
      have q16 : a.tmps.getD 16 undef = .pointer (some ⟨g, 3, none⟩) := q16
      have q13 := (hdep ⟨5, .data⟩ (by simp) rfl).2 _ rfl _ rfl
      have q13 : a.tmps.getD 13 undef = digV H := q13
      refine wp_strh _ _ g _ H rfl q16 q13 HH.out hI.2.2.2.1 (fun w3 hd ho => hK _ ?_)
      have hne : B ≠ g ∧ B + 1 ≠ g ∧ B + 1 + 1 ≠ g := by have := GB.out; omega
      show Fx w B g r H (IntKind.i64.wrap (1 - r.p)) Z ((listed.setIfInBounds 11 true).getD 7 false) ((listed.setIfInBounds 11 true).getD 9 false) ((listed.setIfInBounds 11 true).getD 11 false) _
      rw [bit_new (by rw [hls]; decide), bit_set (by decide), bit_set (by decide)]
      exact ⟨ho.rb hI.1 hne.1, ho.db hI.2.1 hne.2.1, ho.bk hI.2.2.1 hne.2.2, hd, ho.below B (by have := GB.out; omega) w hI.2.2.2.2⟩
  · intro l w4 hall hI
    rw [hall 7 (by decide), hall 9 (by decide), hall 11 (by decide)] at hI
    obtain ⟨h1, h2, h3, h4, bw4⟩ := hI
    have R4 := Lib.hid h1
    have Z4 := Lib.hid h3
    have S4 : Hid (RB w4 g s) := by rw [← HS.out]; exact Lib.hid h4
    clear h1 h2 h3 h4 R2 H2 Z2 S2 bw2
    subst hV
    simp only [putAll, List.getD_cons_zero, List.getD_cons_succ]
    have c1 : w4.cell? ⟨B, 1, none⟩ = some (.int .u64 r.c) := (R4.out.2.cell 1).trans (by simpa using r.at1)
    have c2 : w4.cell? ⟨B, 2, none⟩ = some (.int .u64 r.a) := (R4.out.2.cell 2).trans (by simpa using r.at2)
    by_cases hle : r.c ≤ r.a
    · obtain ⟨e1, e2⟩ := E1.out hle
      subst e1 e2
      go_wp2_with (first | (with_reducible refine stop_load25 ?_) | (with_reducible refine stop_store25 ?_) | (with_reducible refine stop_load27 ?_) | (with_reducible refine stop_store27 ?_))
      (with_reducible refine ⟨?_⟩); (with_reducible refine at_any ?_ ?_); (focus go_simp); refine fun K hK => wp_str _ _ (B + 1 + 1) zeroRg rfl rfl rfl rfl Z4.out zl (fun w6 hd ho => hK _ _ ?_)
      have bw6 := ho.below B (by omega) w bw4
      clear ho hK Z4 bw4
      go_wp2_with (first | (with_reducible refine stop_load25 ?_) | (with_reducible refine stop_store25 ?_) | (with_reducible refine stop_load27 ?_) | (with_reducible refine stop_store27 ?_))
      rw [hB.out] at bw6
      exact bodyPost_ret (res_reg rfl _ _ (B + 1 + 1) rfl zeroRg hd) rfl ⟨rfl, bw6⟩
    · obtain ⟨e1, e2⟩ := E2.out (by omega)
      subst e1 e2
      have hlt : r.a < r.c := by omega
      go_wp2_with (first | (with_reducible refine stop_load25 ?_) | (with_reducible refine stop_store25 ?_) | (with_reducible refine stop_load27 ?_) | (with_reducible refine stop_store27 ?_))
      (with_reducible refine ⟨?_⟩); (with_reducible refine at_any ?_ ?_); (focus go_simp); refine fun K hK => wp_ldr _ _ r rfl rfl R4.out (hK _ _ ?_)
      clear hK
      go_wp2_with (first | (with_reducible refine stop_load25 ?_) | (with_reducible refine stop_store25 ?_) | (with_reducible refine stop_load27 ?_) | (with_reducible refine stop_store27 ?_))
      (with_reducible refine ⟨?_⟩); (with_reducible refine at_any ?_ ?_); (focus go_simp); refine fun K hK => wp_ldr _ _ s rfl rfl S4.out (hK _ _ ?_)
      clear hK
      go_wp2_with (first | (with_reducible refine stop_load25 ?_) | (with_reducible refine stop_store25 ?_) | (with_reducible refine stop_load27 ?_) | (with_reducible refine stop_store27 ?_))
      refine (ST.out _).mono ?_
      rintro e w5 ⟨rfl, x5⟩
      have Z5 := Lib.hid (Z4.out.ext x5)
      have hl4 := Z4.out.lt
      have bw5 : Below B w w5 := bw4.trans (x5.mono (by omega))
      clear R4 Z4 S4 bw4 x5 ST c1 c2
      go_wp2_with (first | (with_reducible refine stop_load25 ?_) | (with_reducible refine stop_store25 ?_) | (with_reducible refine stop_load27 ?_) | (with_reducible refine stop_store27 ?_))
      (with_reducible refine ⟨?_⟩); (with_reducible refine at_any ?_ ?_); (focus go_simp); refine fun K hK => wp_str _ _ (B + 1 + 1) _ rfl rfl rfl HK.out Z5.out zl (fun w6 hd ho => hK _ _ ?_)
      have bw6 := ho.below B (by omega) w bw5
      clear ho hK Z5 bw5
      go_wp2_with (first | (with_reducible refine stop_load25 ?_) | (with_reducible refine stop_store25 ?_) | (with_reducible refine stop_load27 ?_) | (with_reducible refine stop_store27 ?_))
      rw [hB.out] at bw6
      exact bodyPost_ret (res_reg rfl _ _ (B + 1 + 1) rfl _ hd) rfl ⟨rfl, bw6⟩
theorem rnext_any (r : Rg) (ok : r.Ok) (H : List UInt8) (hH : H.length = 16) (hc : r.c < 18446744073709551616) (w : World) :
    Calls Try.prog 27 #[r.V, digV H] w fun e w' => e = .returned (keptV r (r.next H)) ∧ Below w.heap.size w w' :=
  (rnext_to r ok H hH w).mono fun e w' h => ⟨h.1.trans (by
    by_cases h : r.c < 18446744073709551615
    · have hw : IntKind.u64.wrap (r.c + 1) = r.c + 1 := by
        have := ok.c0
        unfold IntKind.wrap; simp [IntKind.signed, IntKind.bits]; omega
      rw [hw]; rfl
    · rw [kept_wrong (Rg.right_large (by omega)) _ (r.next H)]), h.2⟩
theorem rfold_any (r : Rg) (ok : r.Ok) (H : List UInt8) (hH : H.length = 16) (hp0 : -9223372036854775808 ≤ r.p) (hp1 : r.p ≤ 9223372036854775807) (w : World) :
    Calls Try.prog 29 #[r.V, digV H] w fun e w' => e = .returned (foldV r H) ∧ Below w.heap.size w w' :=
  (rfold_to r ok H hH w).mono fun e w' h => ⟨h.1.trans (by
    by_cases h : 0 ≤ r.p
    · have hw : (IntKind.i64.wrap (1 - r.p)) = 1 - r.p := by
        unfold IntKind.wrap; simp [IntKind.signed, IntKind.bits]; omega
      rw [hw]; rfl
    · rw [foldW_is (Rg.right_odd (by omega)) H]), h.2⟩
end Go.Proofs.Ytlebanghcbkejaa
