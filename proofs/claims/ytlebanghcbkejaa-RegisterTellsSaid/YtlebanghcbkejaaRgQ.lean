/- the reference's Next for any register -/
import Derived.Test.YtlebanghcbkejaaRgN
import Derived.Test.YtlebanghcbkejaaFlV
namespace Go.Proofs.Ytlebanghcbkejaa
open Go.RowKit
def Rg.nextTo (r : Rg) (H : List UInt8) (u : Int) : Rg := ⟨r.b, u, r.a, H, r.p⟩
/-- memory while a register is made anew -/
def Nx (w : World) (B g : Nat) (r : Rg) (H : List UInt8) (u : Int) (Z : Array Value) (b5 b7 : Bool) (w2 : World) : Prop :=
  RB w2 B r ∧ DB w2 (B + 1) H ∧ Bk w2 (B + 1 + 1) 27 Z ∧ RB w2 g ⟨r.b, if b5 = true then u else r.c, r.a, if b7 = true then H else r.l, r.p⟩ ∧ Below B w w2
set_option maxHeartbeats 4000000 in
set_option maxRecDepth 100000 in
theorem rnext_to (r : Rg) (ok : r.Ok) (H : List UInt8) (hH : H.length = 16) (w : World) :
    Calls Try.prog 27 #[r.V, digV H] w fun e w' => e = .returned (keptV r (r.nextTo H (IntKind.u64.wrap (r.c + 1)))) ∧ Below w.heap.size w w' := by
  have hu0 : 0 ≤ (IntKind.u64.wrap (r.c + 1)) := by unfold IntKind.wrap; simp [IntKind.signed, IntKind.bits]; omega
  have ST := Lib.hid (fun W => kept_ref r (r.nextTo H (IntKind.u64.wrap (r.c + 1))) ok ⟨ok.b0, hu0, ok.a0, hH⟩ W)
  have HR := Lib.hid ok.l16
  have HK := Lib.hid (kept_len r (r.nextTo H (IntKind.u64.wrap (r.c + 1))) hH)
  have HH := Lib.hid hH
  clear hu0
  obtain ⟨cs, hcs⟩ : ∃ cs, cs = r.C.toArray := ⟨_, rfl⟩
  have hv : r.V = .agg cs := by rw [hcs]; rfl
  obtain ⟨ds, hds⟩ : ∃ cs, cs = (Lib.byteCells H).toArray := ⟨_, rfl⟩
  have hv' : digV H = .agg ds := by rw [hds]; rfl
  have R0 : Hid (∀ Z, RB (((w.alloc (.cells cs 27)).alloc (.cells ds 25)).alloc (.cells Z 27)) w.heap.size r) := by
    rw [hcs]; exact Lib.hid fun Z => ⟨HR.out, ((Bk.new rfl _ _).more _).more _⟩
  have H0 : Hid (∀ Z, DB (((w.alloc (.cells cs 27)).alloc (.cells ds 25)).alloc (.cells Z 27)) (w.heap.size + 1) H) := by
    rw [hds]; exact Lib.hid fun Z => ⟨HH.out, (Bk.new (by simp) _ _).more _⟩
  have Z0 : Hid (∀ Z, Bk (((w.alloc (.cells cs 27)).alloc (.cells ds 25)).alloc (.cells Z 27)) (w.heap.size + 1 + 1) 27 Z) := Lib.hid fun Z => Bk.new (by simp) _ _
  have bw : ∀ Z, Below w.heap.size w (((w.alloc (.cells cs 27)).alloc (.cells ds 25)).alloc (.cells Z 27)) := fun Z => (((Below.refl _ _).alloc (Nat.le_refl _) _).alloc (by simp) _).alloc (by simp; omega) _
  have BW := Lib.hid bw
  have sz : ∀ Z, (((w.alloc (.cells cs 27)).alloc (.cells ds 25)).alloc (.cells Z 27)).heap.size = w.heap.size + 1 + 1 + 1 := fun Z => by simp
  have SZ := Lib.hid sz
  obtain ⟨s, hs⟩ : ∃ s, s = r.nextTo H (IntKind.u64.wrap (r.c + 1)) := ⟨_, rfl⟩
  have hs2 : (⟨r.b, (IntKind.u64.wrap (r.c + 1)), r.a, H, r.p⟩ : Rg) = s := by rw [hs]; rfl
  rw [← hs] at ST HK ⊢
  have HS := Lib.hid hs2
  obtain ⟨q, hq⟩ : ∃ q, q = (r.right && s.right) := ⟨_, rfl⟩
  obtain ⟨k, hk⟩ : ∃ k, k = (if (r.right && s.right) = true then s else zeroRg) := ⟨_, rfl⟩
  have hkv : keptV r s = .tuple #[k.V, .bool q] := by rw [hk, hq]; rfl
  rw [← hk, ← hq] at ST
  rw [← hk] at HK
  rw [hkv]
  clear hk hq hkv
  rw [hv, hv']
  clear hv hv' hcs hds bw sz hs hs2 ok hH
  go_enter Try.func27, Try.ntmps27
  go_wp2_with (first | (with_reducible refine stop_load25 ?_) | (with_reducible refine stop_store25 ?_) | (with_reducible refine stop_load27 ?_) | (with_reducible refine stop_store27 ?_))
  generalize hw1 : ((w.alloc (.cells cs 27)).alloc (.cells ds 25)).alloc (.cells _ 27) = w1
  obtain ⟨B, hB⟩ : ∃ B, B = w.heap.size := ⟨_, rfl⟩
  have R1 : RB w1 B r := by rw [← hw1, hB]; exact R0.out _
  have H1 : DB w1 (B + 1) H := by rw [← hw1, hB]; exact H0.out _
  have ⟨Z, zl, Z1⟩ : ∃ Z : Array Value, Z.size = 20 ∧ Bk w1 (B + 1 + 1) 27 Z := ⟨zeroRg.C.toArray, rfl, by rw [← hw1, hB]; exact Z0.out _⟩
  have bw1 : Below B w w1 := by rw [← hw1, hB]; exact BW.out _
  have sz1 : B + 3 ≤ w1.heap.size := by rw [← hw1, hB, SZ.out _]; omega
  rw [← hB]
  replace hB := Lib.hid hB
  clear R0 H0 Z0 BW SZ hw1
  (with_reducible refine ⟨?_⟩); (with_reducible refine at_any ?_ ?_); (focus go_simp); refine fun K hK => wp_ldr _ _ r rfl rfl R1 (hK _ _ ?_)
  clear hK
  go_wp2_with (first | (with_reducible refine stop_load25 ?_) | (with_reducible refine stop_store25 ?_) | (with_reducible refine stop_load27 ?_) | (with_reducible refine stop_store27 ?_))
  have x2 : ∀ Z, Ex w1 (w1.alloc (.cells Z 27)) := fun Z => (Below.refl _ _).alloc (Nat.le_refl _) _
  (with_reducible refine ⟨?_⟩); (with_reducible refine at_any ?_ ?_); (focus go_simp); refine fun K hK => wp_str _ _ w1.heap.size r rfl rfl rfl HR.out (Bk.new rfl _ _) rfl (fun w2 hd ho => hK _ _ ?_)
  have R2 := Lib.hid (ho.rb (R1.ext (x2 _)) (by omega))
  have H2 := Lib.hid (ho.db (H1.ext (x2 _)) (by omega))
  have Z2 := Lib.hid (ho.bk (Z1.ext (x2 _)) (by omega))
  have bw2 := ho.below B (by omega) w (Below.trans bw1 ((x2 zeroRg.C.toArray).mono (by omega)))
  obtain ⟨g, hg⟩ : ∃ g, g = w1.heap.size := ⟨_, rfl⟩
  rw [← hg] at hd ⊢
  have S2 := Lib.hid hd
  have gB : B + 2 < g := by omega
  have GB := Lib.hid gB
  clear R1 H1 Z1 bw1 x2 ho hd hg sz1 hK
  go_wp2_with (first | (with_reducible refine stop_load25 ?_) | (with_reducible refine stop_store25 ?_) | (with_reducible refine stop_load27 ?_) | (with_reducible refine stop_store27 ?_))
  obtain ⟨V, hV⟩ : ∃ V : List Value, V = [.pointer (some ⟨B, 1, none⟩), .int .u64 r.c, .int .u64 (IntKind.u64.wrap (r.c + 1)), digV H, .pointer (some ⟨g, 1, none⟩), undef, .pointer (some ⟨g, 3, none⟩), undef] := ⟨_, rfl⟩
  refine wp_region_val (fun i => V.getD i undef) (fun l => Nx w B g r H (IntKind.u64.wrap (r.c + 1)) Z (l.getD 5 false) (l.getD 7 false)) (by kernel_rfl) (by kernel_rfl) (by kernel_rfl) (fitB_spec (by kernel_rfl)) ?_ ?_ ?_
  · intro l h0
    rw [h0, h0]
    exact ⟨R2.out.ext (Below.refl _ _).drew, H2.out.ext (Below.refl _ _).drew, Z2.out.ext (Below.refl _ _).drew, S2.out.ext (Below.refl _ _).drew, bw2.drew⟩
  · intro i o ho
    have hi : i < 8 := (Array.getElem?_eq_some_iff.1 ho).1
    have hi' : i = 0 ∨ i = 1 ∨ i = 2 ∨ i = 3 ∨ i = 4 ∨ i = 5 ∨ i = 6 ∨ i = 7 := by omega
    clear hi
    rcases hi' with rfl | rfl | rfl | rfl | rfl | rfl | rfl | rfl
    all_goals (simp only [List.getElem?_toArray, List.getElem?_cons_zero, List.getElem?_cons_succ, Option.some.injEq] at ho; subst ho hV; intro listed a w2 hI hsz hls hun hdep hout)
    · rw [if_pos (by rfl)]
      intro K hK
      have q2 := hout 2 (outB_spec (by kernel_rfl))
      clear hsz hdep hout hun
      go_simp
      exact hK _ (by show Nx w B g r H (IntKind.u64.wrap (r.c + 1)) Z ((listed.setIfInBounds 0 true).getD 5 false) ((listed.setIfInBounds 0 true).getD 7 false) _; rw [bit_set (by decide), bit_set (by decide)]; exact hI)
    · rw [if_pos (by rfl)]
      intro K hK
      have q8 := (hdep ⟨0, .data⟩ (by simp) rfl).2 _ rfl _ rfl
      have q8 : a.tmps.getD 8 undef = .pointer (some ⟨B, 1, none⟩) := q8
      have f1 : w2.cell? ⟨B, 1, none⟩ = some (.int .u64 r.c) := (hI.1.2.cell 1).trans (by simpa using r.at1)
      clear hsz hdep hout hun
      go_simp
      exact hK _ (by show Nx w B g r H (IntKind.u64.wrap (r.c + 1)) Z ((listed.setIfInBounds 1 true).getD 5 false) ((listed.setIfInBounds 1 true).getD 7 false) _; rw [bit_set (by decide), bit_set (by decide)]; exact hI)
    · rw [if_pos (by rfl)]
      intro K hK
      have q9 := (hdep ⟨1, .data⟩ (by simp) rfl).2 _ rfl _ rfl
      have q9 : a.tmps.getD 9 undef = .int .u64 r.c := q9
      clear hsz hdep hout hun
      go_simp
      exact hK _ (by show Nx w B g r H (IntKind.u64.wrap (r.c + 1)) Z ((listed.setIfInBounds 2 true).getD 5 false) ((listed.setIfInBounds 2 true).getD 7 false) _; rw [bit_set (by decide), bit_set (by decide)]; exact hI)
    · rw [if_pos (by rfl)]
      intro K hK
      have q3 := hout 3 (outB_spec (by kernel_rfl))
      refine wp_ldh _ (B + 1) H rfl q3 hI.2.1 (hK _ ?_)
      show Nx w B g r H (IntKind.u64.wrap (r.c + 1)) Z ((listed.setIfInBounds 3 true).getD 5 false) ((listed.setIfInBounds 3 true).getD 7 false) _; rw [bit_set (by decide), bit_set (by decide)]; exact hI
    · rw [if_pos (by rfl)]
      intro K hK
      have q6 := hout 6 (outB_spec (by kernel_rfl))
      clear hsz hdep hout hun
      go_simp
      exact hK _ (by show Nx w B g r H (IntKind.u64.wrap (r.c + 1)) Z ((listed.setIfInBounds 4 true).getD 5 false) ((listed.setIfInBounds 4 true).getD 7 false) _; rw [bit_set (by decide), bit_set (by decide)]; exact hI)
    · rw [if_pos (by rfl)]
      intro K hK
      have q12 := (hdep ⟨4, .data⟩ (by simp) rfl).2 _ rfl _ rfl
      have q12 : a.tmps.getD 12 undef = .pointer (some ⟨g, 1, none⟩) := q12
      have q10 := (hdep ⟨2, .data⟩ (by simp) rfl).2 _ rfl _ rfl
      have q10 : a.tmps.getD 10 undef = .int .u64 (IntKind.u64.wrap (r.c + 1)) := q10
      have f1 : w2.cell? ⟨g, 1, none⟩ = some (.int .u64 (if listed.getD 5 false = true then (IntKind.u64.wrap (r.c + 1)) else r.c)) := (hI.2.2.2.1.2.cell 1).trans (by simpa using Rg.at1 _)
      have r1 : w2.frozen? ⟨g, 1, none⟩ = false := hI.2.2.2.1.2.fr 1
      have hne : g ≠ B ∧ g ≠ B + 1 ∧ g ≠ B + 1 + 1 := by have := GB.out; omega
      clear hsz hdep hout hun
      go_simp
      refine hK _ ?_
      show Nx w B g r H (IntKind.u64.wrap (r.c + 1)) Z ((listed.setIfInBounds 5 true).getD 5 false) ((listed.setIfInBounds 5 true).getD 7 false) _
      rw [bit_new (by rw [hls]; decide), bit_set (by decide)]
      exact ⟨hI.1.far hne.1.symm, hI.2.1.far hne.2.1.symm, hI.2.2.1.far hne.2.2.symm, hI.2.2.2.1.put1 _, hI.2.2.2.2.setCell (p := ⟨g, 1, none⟩) (by have := GB.out; show B ≤ g; omega) _⟩
    · rw [if_pos (by rfl)]
      intro K hK
      have q6 := hout 6 (outB_spec (by kernel_rfl))
      clear hsz hdep hout hun
      go_simp
      exact hK _ (by show Nx w B g r H (IntKind.u64.wrap (r.c + 1)) Z ((listed.setIfInBounds 6 true).getD 5 false) ((listed.setIfInBounds 6 true).getD 7 false) _; rw [bit_set (by decide), bit_set (by decide)]; exact hI)
    · rw [if_pos (by rfl)]
      intro K hK
      have q13 := (hdep ⟨6, .data⟩ (by simp) rfl).2 _ rfl _ rfl
      have q13 : a.tmps.getD 13 undef = .pointer (some ⟨g, 3, none⟩) := q13
      have q11 := (hdep ⟨3, .data⟩ (by simp) rfl).2 _ rfl _ rfl
      have q11 : a.tmps.getD 11 undef = digV H := q11
      refine wp_strh _ _ g _ H rfl q13 q11 HH.out hI.2.2.2.1 (fun w3 hd ho => hK _ ?_)
      have hne : B ≠ g ∧ B + 1 ≠ g ∧ B + 1 + 1 ≠ g := by have := GB.out; omega
      show Nx w B g r H (IntKind.u64.wrap (r.c + 1)) Z ((listed.setIfInBounds 7 true).getD 5 false) ((listed.setIfInBounds 7 true).getD 7 false) _
      rw [bit_new (by rw [hls]; decide), bit_set (by decide)]
      exact ⟨ho.rb hI.1 hne.1, ho.db hI.2.1 hne.2.1, ho.bk hI.2.2.1 hne.2.2, hd, ho.below B (by have := GB.out; omega) w hI.2.2.2.2⟩
  · intro l w4 hall hI
    rw [hall 5 (by decide), hall 7 (by decide)] at hI
    obtain ⟨h1, h2, h3, h4, bw4⟩ := hI
    have R4 := Lib.hid h1
    have Z4 := Lib.hid h3
    have S4 : Hid (RB w4 g s) := by rw [← HS.out]; exact Lib.hid h4
    clear h1 h2 h3 h4 R2 H2 Z2 S2 bw2
    subst hV
    simp only [putAll, List.getD_cons_zero, List.getD_cons_succ]
    go_wp2_with (first | (with_reducible refine stop_load25 ?_) | (with_reducible refine stop_store25 ?_) | (with_reducible refine stop_load27 ?_) | (with_reducible refine stop_store27 ?_))
    (with_reducible refine ⟨?_⟩); (with_reducible refine at_any ?_ ?_); (focus go_simp); refine fun K hK => wp_ldr _ _ r rfl rfl R4.out (hK _ _ ?_)
    clear hK
    go_wp2_with (first | (with_reducible refine stop_load25 ?_) | (with_reducible refine stop_store25 ?_) | (with_reducible refine stop_load27 ?_) | (with_reducible refine stop_store27 ?_))
    (with_reducible refine ⟨?_⟩); (with_reducible refine at_any ?_ ?_); (focus go_simp); refine fun K hK => wp_ldr _ _ s rfl rfl S4.out (hK _ _ ?_)
    clear hK
    go_wp2_with (first | (with_reducible refine stop_load25 ?_) | (with_reducible refine stop_store25 ?_) | (with_reducible refine stop_load27 ?_) | (with_reducible refine stop_store27 ?_))
    refine (ST.out _).mono ?_
    rintro e w5 ⟨rfl, x5⟩
    have Z5 := Lib.hid (Z4.out.ext x5)
    have hl4 := Z4.out.lt
    have bw5 : Below B w w5 := bw4.trans (x5.mono (by omega))
    clear R4 Z4 S4 bw4 x5 ST
    go_wp2_with (first | (with_reducible refine stop_load25 ?_) | (with_reducible refine stop_store25 ?_) | (with_reducible refine stop_load27 ?_) | (with_reducible refine stop_store27 ?_))
    (with_reducible refine ⟨?_⟩); (with_reducible refine at_any ?_ ?_); (focus go_simp); refine fun K hK => wp_str _ _ (B + 1 + 1) k rfl rfl rfl HK.out Z5.out zl (fun w6 hd ho => hK _ _ ?_)
    have bw6 := ho.below B (by omega) w bw5
    clear ho hK Z5 bw5
    go_wp2_with (first | (with_reducible refine stop_load25 ?_) | (with_reducible refine stop_store25 ?_) | (with_reducible refine stop_load27 ?_) | (with_reducible refine stop_store27 ?_))
    rw [hB.out] at bw6
    exact bodyPost_ret (res_reg rfl _ _ (B + 1 + 1) rfl k hd) rfl ⟨rfl, bw6⟩
end Go.Proofs.Ytlebanghcbkejaa
