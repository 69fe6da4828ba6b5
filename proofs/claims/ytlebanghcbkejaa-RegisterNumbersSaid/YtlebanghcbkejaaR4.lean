/- walks: the document's own kept -/
import Derived.Test.YtlebanghcbkejaaR3
namespace Go.Proofs.Ytlebanghcbkejaa
open Go.RowKit
set_option maxHeartbeats 4000000 in
set_option maxRecDepth 100000 in
theorem kept_ref (r s : Rg) (ok : r.Ok) (ok' : s.Ok) (w : World) :
    Calls Try.prog 36 #[r.V, s.V] w fun e w' => e = .returned (.tuple #[(if r.right && s.right then s else zeroRg).V, .bool (r.right && s.right)]) ∧ Below w.heap.size w w' := by
  have R := Lib.hid (fun w => right_ref r ok w)
  have S := Lib.hid (fun w => right_ref s ok' w)
  have hl := r.len ok.l16
  have hl' := s.len ok'.l16
  obtain ⟨cs, hcs⟩ : ∃ cs, cs = r.C := ⟨_, rfl⟩
  obtain ⟨ds, hds⟩ : ∃ ds, ds = s.C := ⟨_, rfl⟩
  have hv : r.V = .agg cs.toArray := by rw [hcs]; rfl
  have hv' : s.V = .agg ds.toArray := by rw [hds]; rfl
  rw [← hcs] at hl
  rw [← hds] at hl'
  obtain ⟨q, hq⟩ : ∃ q, q = r.right := ⟨_, rfl⟩
  obtain ⟨q', hq'⟩ : ∃ q, q = s.right := ⟨_, rfl⟩
  rw [hv, ← hq] at R
  rw [hv', ← hq'] at S
  rw [hv, hv', ← hq, ← hq']
  have hsz : (Try.prog.info? 27).map (·.size) = some cs.length := by rw [Try.size27, hl]
  have hsz' : (Try.prog.info? 27).map (·.size) = some ds.length := by rw [Try.size27, hl']
  have HS := Lib.hid hsz
  have HS' := Lib.hid hsz'
  obtain ⟨d, hd⟩ : ∃ d, Try.prog.underlying 27 = some d ∧ d.isRow = true := ⟨_, Try.underlying27, rfl⟩
  have HD := Lib.hid hd
  have HV := Lib.hid hv'
  have HL := Lib.hid (show ds.toArray.size = 20 by simpa using hl')
  have HO := Lib.hid (show ds.toArray.all (·.oneCell') = true by rw [hds]; exact s.ones)
  clear hsz hsz' hd hv hv' hcs hds hq hq' hl hl'
  have hz : zeroRg.C.length = 20 := rfl
  have hr0 : ∀ Z, (((w.alloc (.cells cs.toArray 27)).alloc (.cells ds.toArray 27)).alloc (.cells Z 27)).rangeAt w.heap.size 0 cs := by
    intro Z j v hv
    have h1 : (w.alloc (.cells cs.toArray 27)).cell? ⟨w.heap.size, 0 + j, none⟩ = some v := by simpa using hv
    have hb : Below (w.heap.size + 1) (w.alloc (.cells cs.toArray 27)) (((w.alloc (.cells cs.toArray 27)).alloc (.cells ds.toArray 27)).alloc (.cells Z 27)) :=
      ((Below.refl _ _).alloc (by simp) _).alloc (by simp) _
    exact (hb.cell (p := ⟨w.heap.size, 0 + j, none⟩) (by simp)).trans h1
  have hr1 : ∀ Z, (((w.alloc (.cells cs.toArray 27)).alloc (.cells ds.toArray 27)).alloc (.cells Z 27)).rangeAt (w.heap.size + 1) 0 ds := by
    intro Z j v hv
    have h1 : ((w.alloc (.cells cs.toArray 27)).alloc (.cells ds.toArray 27)).cell? ⟨w.heap.size + 1, 0 + j, none⟩ = some v := by simpa using hv
    have hb : Below (w.heap.size + 2) ((w.alloc (.cells cs.toArray 27)).alloc (.cells ds.toArray 27)) (((w.alloc (.cells cs.toArray 27)).alloc (.cells ds.toArray 27)).alloc (.cells Z 27)) :=
      (Below.refl _ _).alloc (by simp) _
    exact (hb.cell (p := ⟨w.heap.size + 1, 0 + j, none⟩) (by simp)).trans h1
  have HR0 := Lib.hid hr0
  have HR1 := Lib.hid hr1
  clear hr0 hr1 hz
  go_enter Try.func36, Try.ntmps36
  go_wp2_with ((with_reducible refine wpList_at_load ?_ ?_); (focus go_simp); (refine fun K hK => wp_load_mid 27 _ rfl _ 0 rfl _ _ (HR0.out _) HD.out.1 HD.out.2 HS.out (hK _ _ ?_)))
  refine (R.out _).mono ?_
  rintro e w1 ⟨rfl, b1⟩
  have m1 := Lib.hid (range_below (HR1.out _) b1 (by simp))
  have t1 := there_below (there_new _ _ _ _ rfl) b1 (by simp)
  have bw : Below w.heap.size w w1 := (((Below.refl _ _).alloc (Nat.le_refl _) _).alloc (by simp) _).alloc (by simp; omega) _ |>.trans (b1.mono (by simp; omega))
  have sz1 : w.heap.size + 3 ≤ w1.heap.size := by have := b1.size; simp at this; omega
  have t2 : w1.there (w.heap.size + 1 + 1) 0 20 := by simpa using t1
  have T := Lib.hid t2
  clear t1 t2 b1
  cases q
  · go_wp2_with ((with_reducible refine wpList_at_store ?_ ?_); (focus go_simp); (refine fun K hK => wp_store_mid 27 _ _ rfl (w.heap.size + 1 + 1) 0 _ rfl rfl T.out Try.size27 (by simp [Value.oneCell']) (hK _ _ ?_)))
    refine bodyPost_ret (results_cell_tmp rfl _ _ _ (w.heap.size + 1 + 1) 0 rfl zeroRg.C d (World.rangeAt_setCells_same _ _ _ _ T.out) HD.out.1 HD.out.2 Try.size27) rfl ⟨rfl, below_setCells _ _ _ (by omega) bw⟩
  · go_wp2_with ((with_reducible refine wpList_at_load ?_ ?_); (focus go_simp); (refine fun K hK => wp_load_mid 27 _ rfl _ 0 rfl _ _ m1.out HD.out.1 HD.out.2 HS'.out (hK _ _ ?_)))
    refine (S.out _).mono ?_
    rintro e w2 ⟨rfl, b2⟩
    have T2 := Lib.hid (there_below T.out b2 (by omega))
    have bw2 : Below w.heap.size w w2 := bw.trans (b2.mono (by omega))
    have m2 := Lib.hid (range_below m1.out b2 (by omega))
    cases q'
    · go_wp2_with ((with_reducible refine wpList_at_store ?_ ?_); (focus go_simp); (refine fun K hK => wp_store_mid 27 _ _ rfl (w.heap.size + 1 + 1) 0 _ rfl rfl T2.out Try.size27 (by simp [Value.oneCell']) (hK _ _ ?_)))
      refine bodyPost_ret (results_cell_tmp rfl _ _ _ (w.heap.size + 1 + 1) 0 rfl zeroRg.C d (World.rangeAt_setCells_same _ _ _ _ T2.out) HD.out.1 HD.out.2 Try.size27) rfl ⟨rfl, below_setCells _ _ _ (by omega) bw2⟩
    · have T3 : w2.there (w.heap.size + 1 + 1) 0 ds.toArray.size := by rw [HL.out]; exact T2.out
      have T3 := Lib.hid T3
      have hi3 := Lib.hid (show (Try.prog.info? 27).map (·.size) = some ds.toArray.size by rw [Try.size27, HL.out])
      go_wp2_with (first
        | ((with_reducible refine wpList_at_load ?_ ?_); (focus go_simp); (refine fun K hK => wp_load_mid 27 _ rfl _ 0 rfl _ _ m2.out HD.out.1 HD.out.2 HS'.out (hK _ _ ?_)))
        | ((with_reducible refine wpList_at_store ?_ ?_); (focus go_simp); (refine fun K hK => wp_store_mid 27 _ _ rfl (w.heap.size + 1 + 1) 0 ds.toArray rfl rfl T3.out hi3.out HO.out (hK _ _ ?_))))
      have hv2 := HV.out
      refine bodyPost_ret (results_cell_tmp rfl _ _ _ (w.heap.size + 1 + 1) 0 rfl ds d (World.rangeAt_setCells_same _ _ _ _ (by simpa using T3.out)) HD.out.1 HD.out.2 HS'.out) rfl ⟨?_, below_setCells _ _ _ (by omega) bw2⟩
      simp [hv2]
end Go.Proofs.Ytlebanghcbkejaa
