/- the laws PinTells and PinMasks, walked; a slice of signs opened -/
import Derived.Test.YtiomokjidipjkaaB2
import Derived.Deep.SlicePairs
import Derived.ProofKit
import Derived.OpenShut
namespace Go.Proofs.Ytiomokjidipjkaa
open Go.RowKit Go.ChangeShapes Go.WideShapes
theorem openSigns {H : Type} (enc : TypeId × Value → H) (W : World) (v : Value) (base : Nat) {d : DataW H} {ps : List MemPlace} (hok : Value.okWide Try.checked.prog W .any base 26 v)
    (h : DataW.Trod enc Try.prog W 0 (fun _ => true) true 26 v d ps) : SignRow W v := by
  obtain ⟨a0, len0, cap0, rfl⟩ := okWide_slice Try.underlying26 hok
  obtain ⟨fuel, hf⟩ := h
  rcases Deep.open_slice_pairs Try.underlying26 Try.underlying39 (by kernel_rfl) rfl rfl (by kernel_rfl) (by kernel_rfl) hf with ⟨hcs, _⟩ | ⟨a, len, cap, m, n, V0, V1, D0, D1, P0, P1, hcs, _, hl, hm, hmm, _, hx⟩
  · simp [Value.cells] at hcs
    obtain ⟨rfl, rfl, rfl⟩ := hcs
    exact ⟨none, 0, 0, rfl, Nat.zero_le _, .inl rfl⟩
  · simp [Value.cells] at hcs
    obtain ⟨rfl, rfl, rfl⟩ := hcs
    refine ⟨_, len0, cap0, rfl, Nat.le_trans hl hm, ?_⟩
    by_cases h0 : len0 = 0
    · exact .inl h0
    · right
      have hmc : len0 ≤ m := by rw [hmm]; split <;> omega
      obtain ⟨b, off, spot⟩ := a
      have hc := (hx 0 (by omega)).1
      have hspot : spot = none := by simpa [Addr.add] using World.cell?_spot hc
      subst hspot
      have hlt : b < W.heap.size := by
        have := World.block_lt_of_cell? W _ hc
        simpa [Addr.add] using this
      refine ⟨b, off, rfl, hlt, fun i hi => ?_⟩
      obtain ⟨x0, x1, y0, y1⟩ := hx i (by omega)
      obtain ⟨k, e0, _, wk⟩ := DataW.trod_int Try.underlying3 y0
      obtain ⟨r, e1, _, wr⟩ := DataW.trod_int Try.underlying21 y1
      simp at e0 e1
      rw [e0] at x0
      rw [e1] at x1
      have f0 : (⟨b, off, none⟩ : Addr).add (i * 2) = ⟨b, off + i * 2, none⟩ := Addr.add_lit ..
      have f1 : (⟨b, off, none⟩ : Addr).add (i * 2 + 1) = ⟨b, off + i * 2 + 1, none⟩ := by rw [Addr.add_lit, Nat.add_assoc]
      rw [f0] at x0
      rw [f1] at x1
      have bk := bounds_i64 wk
      have br := bounds_i32 wr
      exact ⟨k, r, x0, x1, by omega, by omega, by omega, by omega⟩

theorem SignRow.mono {w w' : World} {v : Value} (h : SignRow w v) (hb : Below w.heap.size w w') : SignRow w' v := by
  obtain ⟨ao, n, c, rfl, hn, hr⟩ := h
  refine ⟨ao, n, c, rfl, hn, ?_⟩
  rcases hr with h0 | ⟨b, off, rfl, hlt, hx⟩
  · exact .inl h0
  · refine .inr ⟨b, off, rfl, Nat.lt_of_lt_of_le hlt hb.size, fun i hi => ?_⟩
    obtain ⟨k, r, x0, x1, rest⟩ := hx i hi
    exact ⟨k, r, (hb.cell (p := ⟨b, _, none⟩) hlt).trans x0, (hb.cell (p := ⟨b, _, none⟩) hlt).trans x1, rest⟩
set_option maxHeartbeats 2000000 in
set_option maxRecDepth 100000 in
/-- the law's body behind its cut -/
theorem tells_walk (s : ByteArray) (v : Value) (w : World) (hs : s.size ≤ maxLen) (hv : SignRow w v) :
    Calls Try.prog 4 #[.string s, v] w fun e w' => e = .returned (.bool true) ∧ Below w.heap.size w w' := by
  unfold maxLen at hs
  obtain ⟨s', hs', hcut⟩ : ∃ s' : ByteArray, s'.size ≤ 60 ∧ ((60 < s.size ∧ s' = s.extract 0 60) ∨ (s.size ≤ 60 ∧ s' = s)) := by
    by_cases h : 60 < s.size
    · exact ⟨s.extract 0 60, by simp; omega, .inl ⟨h, rfl⟩⟩
    · exact ⟨s, by omega, .inr ⟨by omega, rfl⟩⟩
  have HV := Lib.hid hv
  clear hv
  rcases hcut with ⟨h60, rfl⟩ | ⟨h60, rfl⟩
  all_goals
    go_enter Try.func4, Try.ntmps4
    go_wp2_with fail
    refine (same_any _ (by omega) _).mono ?_
    rintro e w1 ⟨rfl, b1⟩
    go_wp2_with fail
    refine (text_any v _ (HV.out.mono b1)).mono ?_
    rintro e w2 ⟨t2, rfl, hz2, b2⟩
    go_wp2_with fail
    refine (same_any _ (by omega) _).mono ?_
    rintro e w3 ⟨rfl, b3⟩
    go_wp2_with fail
    refine (text_any v _ (((HV.out.mono b1).mono b2).mono b3)).mono ?_
    rintro e w4 ⟨t4, rfl, hz4, b4⟩
    go_wp2_with fail
    refine (same_any _ (by simp only [ByteArray.size_append]; omega) _).mono ?_
    rintro e w5 ⟨rfl, b5⟩
    go_wp2_with fail
    refine (known_any _).mono ?_
    rintro e w6 ⟨rfl, b6⟩
    go_wp2
    go_ret
    exact ⟨rfl, bump (bump (bump (bump (bump b1 b2) b3) b4) b5) b6⟩
end Go.Proofs.Ytiomokjidipjkaa
