/- walks: Sum of a row; Keyed, Two of both -/
import Derived.Test.YtgoiidpcdifojaaBlC
namespace Go.Proofs.Ytgoiidpcdifojaa.Sm
open Go.RowKit
theorem sum_pt (p : Pt) (w : World) (h : p.In w w.heap.size) (hm : p.l.length < 100000000000000) :
    Calls Try.prog 68 #[p.V] w fun e w' => e = .returned (digV (sumL p.l)) ∧ Below w.heap.size w w' := by
  by_cases h0 : 0 < p.l.length
  · obtain ⟨a, o, e, hB, hc⟩ := h.read h0
    exact sum_core p.l p.ad a o p.cap h.cap (by omega) w (fun _ => e) hB hc
  · exact sum_core0 p.l p.ad 0 0 p.cap h.cap (by omega) w (fun h1 => absurd h1 h0) (fun h1 => absurd h1 h0) (fun i hi => absurd hi (by omega))
theorem rsum_pt (p : Pt) (w : World) (h : p.In w w.heap.size) (hm : p.l.length < 100000000000000) :
    Calls Try.prog 70 #[p.V] w fun e w' => e = .returned (digV (sumL p.l)) ∧ Below w.heap.size w w' := by
  by_cases h0 : 0 < p.l.length
  · obtain ⟨a, o, e, hB, hc⟩ := h.read h0
    exact rsum_core p.l p.ad a o p.cap h.cap h.nil hm w (fun _ => e) hB hc
  · exact rsum_core0 p.l p.ad 0 0 p.cap h.cap h.nil hm w (fun h1 => absurd h1 h0) (fun h1 => absurd h1 h0) (fun i hi => absurd hi (by omega))
theorem own_pt {w : World} {B : Nat} {v : Value} {l : List UInt8} (h : ownU w B v l) : ∃ p : Pt, v = p.V ∧ p.l = l ∧ p.In w w.heap.size ∧ v.ownBlock = p.V.ownBlock := by
  have h' := h
  obtain ⟨h1, h2 | ⟨g, cap, cur, rfl, hb, hh, hc, hm, hs, ht⟩⟩ := h
  · refine ⟨⟨none, 0, l⟩, ?_, rfl, ⟨?_, fun _ => rfl, ?_⟩, ?_⟩
    · unfold Pt.V; simp only; rw [h2.2]; exact h2.1
    · simp only; rw [h2.2]; exact Nat.le_refl 0
    · intro h0; simp only at h0; omega
    · unfold Pt.V; rw [h2.1]; rfl
  · refine ⟨⟨some ⟨g, 0, none⟩, cap, l⟩, rfl, rfl, ⟨hc, (fun h => by cases h), fun _ => ⟨g, 0, rfl, (h'.lt g rfl).2, fun i hi => ?_⟩⟩, rfl⟩
    simp only at hi
    have h3 := World.ownsRow.cellAt h' i (by omega)
    rw [Nat.zero_add, h3]
    simp [Lib.byteCells, hi]
theorem bk_pt {w : World} {g : Nat} {t : TypeId} {l : List UInt8} (h : Bk w g t (Lib.byteCells l).toArray) : (Pt.mk (some ⟨g, 0, none⟩) l.length l).In w w.heap.size :=
  ⟨Nat.le_refl _, (fun h => by cases h), fun _ => ⟨g, 0, rfl, h.lt, fun i hi => by rw [h.cell, Nat.zero_add]; simp [Lib.byteCells]; simp at hi; simp [hi]⟩⟩
set_option maxHeartbeats 4000000 in
set_option maxRecDepth 100000 in
theorem keyed_any (kl : List UInt8) (hk : kl.length = 16) (p : Pt) (w : World) (hp : p.In w w.heap.size) (hm : p.l.length ≤ 90000000000000) :
    Calls Try.prog 58 #[digV kl, p.V] w fun e w' => e = .returned (digV (sumL (kl ++ p.l))) ∧ Below w.heap.size w w' := by
  obtain ⟨cs, hcs⟩ : ∃ cs, cs = Lib.byteCells kl := ⟨_, rfl⟩
  have hv : digV kl = .agg cs.toArray := by rw [hcs]; rfl
  have hcl : cs.toArray.size = 16 := by rw [hcs]; simp [Lib.byteCells, hk]
  obtain ⟨ds, hds⟩ : ∃ ds, ds = Lib.byteCells (sumL (kl ++ p.l)) := ⟨_, rfl⟩
  have hval : digV (sumL (kl ++ p.l)) = .agg ds.toArray := by rw [hds]; rfl
  have hdl : ds.length = 16 := by rw [hds]; rfl
  have HO := Lib.hid (show ds.toArray.all (·.oneCell') = true by rw [hds]; exact bytes_one _)
  have HV := Lib.hid hval
  have HDL := Lib.hid hdl
  have hi3 := Lib.hid (show (Try.prog.info? 59).map (·.size) = some ds.toArray.size by rw [sm_dsize]; simp [hdl])
  have hi4 := Lib.hid (show (Try.prog.info? 59).map (·.size) = some ds.length by rw [sm_dsize, hdl])
  obtain ⟨dd, hd⟩ : ∃ d, Try.prog.underlying 59 = some d ∧ d.isRow = true := ⟨_, Try.underlying59, rfl⟩
  have HD := Lib.hid hd
  clear hds hval hdl hd
  have K0 := Lib.hid (show Bk (w.alloc (.cells cs.toArray 59)) w.heap.size 59 (Lib.byteCells kl).toArray by rw [hcs]; exact Bk.new rfl _ _)
  have HPV := Lib.hid (show p.V = .slice p.ad p.l.length p.cap from rfl)
  have HP := Lib.hid hp
  have HK := Lib.hid hk
  rw [hv, show p.V = .slice p.ad p.l.length p.cap from rfl]
  clear hv hcs hp hk
  go_enter Try.func58, Try.ntmps58
  go_wp2_with fail
  have D0 := Lib.hid (Bk.new (w := w.alloc (.cells cs.toArray 59)) (g := w.heap.size + 1) (by simp) 59 zero16)
  have b0 : Below w.heap.size w ((w.alloc (.cells cs.toArray 59)).alloc (.cells zero16 59)) := ((Below.refl _ _).alloc (Nat.le_refl _) _).alloc (by simp) _
  have K1 := Lib.hid (K0.out.more (.cells zero16 59))
  have z0 : ((w.alloc (.cells cs.toArray 59)).alloc (.cells zero16 59)).heap.size = w.heap.size + 2 := by simp
  have BP := Lib.hid (Bk.new (w := (w.alloc (.cells cs.toArray 59)).alloc (.cells zero16 59)) (g := w.heap.size + 2) (by simp) 27 #[.slice (some ⟨w.heap.size, 0, none⟩) 16 16, .slice p.ad p.l.length p.cap])
  have D1 := Lib.hid (D0.out.more (.cells #[.slice (some ⟨w.heap.size, 0, none⟩) 16 16, .slice p.ad p.l.length p.cap] 27))
  have K2 := Lib.hid (K1.out.more (.cells #[.slice (some ⟨w.heap.size, 0, none⟩) 16 16, .slice p.ad p.l.length p.cap] 27))
  have b1 := b0.alloc (by simp; omega) (.cells #[.slice (some ⟨w.heap.size, 0, none⟩) 16 16, .slice p.ad p.l.length p.cap] 27)
  change Calls Try.prog _ _ ((((w.alloc (.cells cs.toArray 59)).alloc (.cells zero16 59)).alloc (.cells #[.slice (some ⟨w.heap.size, 0, none⟩) 16 16, .slice p.ad p.l.length p.cap] 27))) _
  have z2 : (((w.alloc (.cells cs.toArray 59)).alloc (.cells zero16 59)).alloc (.cells #[.slice (some ⟨w.heap.size, 0, none⟩) 16 16, .slice p.ad p.l.length p.cap] 27)).heap.size = w.heap.size + 3 := by simp
  clear D0 K0 K1 b0 z0
  generalize (((w.alloc (.cells cs.toArray 59)).alloc (.cells zero16 59)).alloc (.cells #[.slice (some ⟨w.heap.size, 0, none⟩) 16 16, .slice p.ad p.l.length p.cap] 27)) = w2 at BP D1 K2 b1 z2 ⊢
  have z2' : w.heap.size + 3 ≤ w2.heap.size := by omega
  have C := Lib.hid (concat_any [⟨some ⟨w.heap.size, 0, none⟩, 16, kl⟩, p] (w.heap.size + 2) 2 w2 (by omega) (by
    intro i q hq
    match i, hq with
    | 0, hq =>
      obtain rfl : _ = q := by simpa using hq
      refine ⟨?_, ?_⟩
      · rw [BP.out.cell]; unfold Pt.V; simp only [HK.out]; rfl
      · have h := bk_pt K2.out
        rw [HK.out] at h
        exact h
    | 1, hq =>
      obtain rfl : p = q := by simpa using hq
      exact ⟨by rw [BP.out.cell]; rfl, (HP.out.keep b1).more (by omega)⟩
    | i + 2, hq => simp at hq) (by simp [flatL, HK.out]; omega) (by simp))
  have eL : flatL [⟨some ⟨w.heap.size, 0, none⟩, 16, kl⟩, p] 2 = kl ++ p.l := by simp [flatL]
  have C : Hid (Calls Try.prog 69 #[.slice (some ⟨w.heap.size + 2, 0, none⟩) 2 2] w2 (ConcatPost (kl ++ p.l) w2)) := by rw [← eL]; exact C
  clear eL z2
  refine C.out.mono ?_
  rintro e w3 ⟨v, rfl, hown, b3⟩
  have D3 := Lib.hid (D1.out.under b3 D1.out.lt)
  have bw3 : Below w.heap.size w w3 := b1.trans (b3.mono (by omega))
  obtain ⟨q, rfl, hql, hqi, _⟩ := own_pt hown
  have z3 := bw3.size
  have G := sum_pt q w3 hqi (by rw [hql, List.length_append, HK.out]; omega)
  rw [hql, HV.out] at G
  have G := Lib.hid G
  clear C hown hql hqi D1 K2 BP b3 b1
  go_wp2_with fail
  refine G.out.mono ?_
  rintro e w4 ⟨rfl, b4⟩
  have bw4 := bw3.trans (b4.mono z3)
  have D4 := Lib.hid (D3.out.under b4 D3.out.lt)
  have TH := Lib.hid (show w4.there (w.heap.size + 1) 0 ds.toArray.size by rw [show ds.toArray.size = 16 by simp [HDL.out]]; exact D4.out.there 16 rfl)
  clear D4 D3 G b4
  go_wp2_with ((with_reducible refine sm_at_store ?_ ?_); (focus go_simp); (refine fun K hK => wp_store_mid 59 _ _ rfl (w.heap.size + 1) 0 ds.toArray rfl rfl TH.out hi3.out HO.out (hK _ _ ?_)))
  rw [HV.out]
  exact bodyPost_ret (sm_results_cell rfl _ _ _ (w.heap.size + 1) 0 rfl ds dd (World.rangeAt_setCells_same _ _ _ _ (by simpa using TH.out)) HD.out.1 HD.out.2 hi4.out) rfl ⟨rfl, sm_below_setCells _ _ _ (by omega) bw4⟩
end Go.Proofs.Ytgoiidpcdifojaa.Sm
