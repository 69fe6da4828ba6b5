/- walks: Cut, Within, Roomy, Same of bytes, Intact -/
import Derived.Test.YtkneeocicbadjaaBlG
namespace Go.Proofs.Ytkneeocicbadjaa
open Go.RowKit
set_option maxHeartbeats 2000000 in
set_option maxRecDepth 100000 in
theorem cut_any (p : Pt) (n : Nat) (hn : n ≤ 100000) (w : World) (hp : p.In w w.heap.size) (hm : p.l.length ≤ 9223372036854775807) :
    Calls Try.prog 29 #[p.V, .int .i64 n] w fun e w' => (∃ q : Pt, e = .returned q.V ∧ q.l = p.l.take n ∧ q.In w' w'.heap.size) ∧ w' = w := by
  have HP := Lib.hid hp
  obtain ⟨ln, hln⟩ : ∃ x, x = p.l.length := ⟨_, rfl⟩
  have hv : p.V = .slice p.ad ln p.cap := by rw [hln]; rfl
  have hcap : ln ≤ p.cap := by rw [hln]; exact hp.cap
  rw [← hln] at hm
  have HLN := Lib.hid hln
  have HV := Lib.hid hv
  rw [hv]
  clear hp hln hv
  go_enter Try.func29, Try.ntmps29
  by_cases h : n < ln
  · have hc : n ≤ p.cap := by omega
    go_wp2_with fail
    go_ret
    have hl : (p.l.take n).length = n := by rw [List.length_take, ← HLN.out]; omega
    refine ⟨⟨⟨p.ad, p.cap, p.l.take n⟩, ?_, rfl, ?_⟩, rfl⟩
    · unfold Pt.V; simp only [hl]; rfl
    · refine ⟨by simp only [hl]; exact hc, HP.out.nil, fun h0 => ?_⟩
      simp only [hl] at h0 ⊢
      obtain ⟨a, o, e, ha, hcc⟩ := HP.out.read (by rw [← HLN.out]; omega)
      refine ⟨a, o, e, ha, fun i hi => ?_⟩
      rw [hcc i (by rw [← HLN.out]; omega)]
      simp [List.getD, List.getElem?_take, hi]
  · go_wp2_with fail
    go_ret
    refine ⟨⟨p, ?_, ?_, HP.out⟩, rfl⟩
    · rw [HV.out]; rfl
    · rw [List.take_of_length_le (by rw [← HLN.out]; omega)]
set_option maxHeartbeats 2000000 in
set_option maxRecDepth 100000 in
theorem within_any (c lo hi : Int) (hc : -9223372036854775808 ≤ c ∧ c ≤ 9223372036854775807) (h0 : 0 ≤ lo) (h1 : lo ≤ hi) (h2 : hi ≤ 1000000) (w : World) :
    Calls Try.prog 31 #[.int .i64 c, .int .i64 lo, .int .i64 hi] w fun e w' => (∃ m : Nat, e = .returned (.int .i64 m) ∧ lo ≤ m ∧ m ≤ hi) ∧ w' = w := by
  go_enter Try.func31, Try.ntmps31
  obtain ⟨n, hn⟩ : ∃ n, n = hi - lo + 1 := ⟨_, rfl⟩
  have n0 : 0 < n := by omega
  have m1 : c.tmod n < n := Int.tmod_lt_of_pos _ n0
  have m2 : -n < c.tmod n := by
    have h := Int.tmod_lt_of_pos (-c) n0
    rw [Int.neg_tmod] at h; omega
  have m3 := Int.emod_nonneg c (show n ≠ 0 by omega)
  have m4 := Int.emod_lt_of_pos c n0
  rw [hn] at m1 m2 m3 m4
  clear hn n0
  by_cases a1 : lo ≤ c
  · by_cases a2 : c ≤ hi
    · clear m1 m2 m3 m4
      go_wp2_with fail
      go_ret
      exact ⟨⟨c.toNat, by show Ending.returned (Value.int .i64 c) = _; rw [Int.toNat_of_nonneg (by omega)], by omega, by omega⟩, rfl⟩
    · go_wp2_with fail
      all_goals (go_ret; refine ⟨⟨_, congrArg Ending.returned (congrArg (Value.int .i64) (Int.toNat_of_nonneg ?_).symm), ?_, ?_⟩, rfl⟩ <;> omega)
  · go_wp2_with fail
    all_goals (go_ret; refine ⟨⟨_, congrArg Ending.returned (congrArg (Value.int .i64) (Int.toNat_of_nonneg ?_).symm), ?_, ?_⟩, rfl⟩ <;> omega)
set_option maxHeartbeats 4000000 in
set_option maxRecDepth 100000 in
theorem bsame_any (p q : Pt) (w : World) (hp : p.In w w.heap.size) (hq : q.In w w.heap.size) (he : p.l = q.l) (hN : p.l.length ≤ 4611686018427387904) :
    Calls Try.prog 65 #[p.V, q.V] w fun e w' => e = .returned (.bool true) ∧ Below w.heap.size w w' := by
  have HP := Lib.hid hp
  have HQ := Lib.hid hq
  obtain ⟨ln, hln⟩ : ∃ x, x = p.l.length := ⟨_, rfl⟩
  have hv : p.V = .slice p.ad ln p.cap := by rw [hln]; rfl
  have hv2 : q.V = .slice q.ad ln q.cap := by rw [hln, he]; rfl
  rw [hv, hv2]
  have HLN := Lib.hid hln
  have HE := Lib.hid he
  rw [← hln] at hN
  clear hp hq hv hv2 hln he
  go_enter Try.func65, Try.ntmps65
  go_wp2_with fail
  go_loopw [5] (fun i wr => ∃ k : Nat, k ≤ ln ∧ i = .int .i64 k ∧ Below w.heap.size w wr) (fun i _ => ln - (intOf i).toNat)
  case atStart => exact ⟨0, by omega, rfl, Below.refl _ _⟩
  case round =>
    obtain ⟨k, hk, rfl, bw⟩ := hrel
    by_cases hlt : k < ln
    · obtain ⟨a, o, e, ha, hc⟩ := HP.out.read (by rw [← HLN.out]; omega)
      obtain ⟨a2, o2, e2, ha2, hc2⟩ := HQ.out.read (by rw [← HE.out, ← HLN.out]; omega)
      have c1 : wr.cell? ⟨a, o + k, none⟩ = some (.int .u8 (p.l.getD k 0).toNat) := (bw.cell (p := ⟨a, o + k, none⟩) ha).trans (hc k (by rw [← HLN.out]; omega))
      have c2 : wr.cell? ⟨a2, o2 + k, none⟩ = some (.int .u8 (p.l.getD k 0).toNat) := by
        rw [HE.out]; exact (bw.cell (p := ⟨a2, o2 + k, none⟩) ha2).trans (hc2 k (by rw [← HE.out, ← HLN.out]; omega))
      rw [e, e2]
      generalize (p.l.getD k 0).toNat = b at c1 c2
      clear hc hc2 e e2
      go_wp2_with fail
      go_quiet (fail)
      go_wp2_with fail
      go_roundw
      case rel => exact ⟨k + 1, by omega, by go_num, ⟨bw.os, bw.tape, bw.output, bw.size, bw.block⟩⟩
      case measure => simp [intOf]; omega
    · obtain rfl : k = ln := by omega
      go_wp2_with fail
      go_ret
      exact ⟨rfl, bw⟩
theorem padX_at (l : List UInt8) (x : UInt8) (t : Nat) (h1 : l.length ≤ t) (h2 : t - l.length < 80) : (l ++ List.replicate 80 x).getD t 0 = x := by
  rw [List.getD_eq_getElem?_getD, List.getElem?_append_right h1, List.getElem?_replicate, if_pos h2]; rfl
theorem padX_len (l : List UInt8) (x : UInt8) : (l ++ List.replicate 80 x).length = l.length + 80 := by simp
set_option maxHeartbeats 4000000 in
set_option maxRecDepth 100000 in
theorem roomy_any (p : Pt) (x : UInt8) (w : World) (hp : p.In w w.heap.size) (hN : p.l.length ≤ 100000) :
    Calls Try.prog 30 #[p.V, .int .u8 x.toNat] w (PtPost (p.l ++ List.replicate 80 x) w) := by
  have HP := Lib.hid hp
  obtain ⟨ln, hln⟩ : ∃ x, x = p.l.length := ⟨_, rfl⟩
  have hv : p.V = .slice p.ad ln p.cap := by rw [hln]; rfl
  rw [hv]
  have HLN := Lib.hid hln
  rw [← hln] at hN
  obtain ⟨b, hb⟩ : ∃ b : Nat, b = x.toNat := ⟨_, rfl⟩
  rw [← hb]
  have HB := Lib.hid hb
  obtain ⟨i0, hi0, hz0, hz1, hz2⟩ := info_parts sm_u8
  obtain ⟨N, hNN⟩ : ∃ N, N = ln + 80 := ⟨_, rfl⟩
  obtain ⟨mc, hmc⟩ : ∃ mc, mc = madeCells (Value.int .u8 0).cells (N * 1) := ⟨_, rfl⟩
  have hmk : ∀ w : World, (Instr.makeSlice 22 (.int .i64 ((ln : Int) + 80)) (.int .i64 ((ln : Int) + 80))).run Try.prog w = .ok (.slice (some ⟨w.heap.size, 0, none⟩) N N) (w.alloc (.cells mc 5)) := by
    intro W
    have h := run_makeSlice (P := Try.prog) W 22 5 i0 _ Try.underlying22 hi0 hz0 .i64 .i64 ((ln : Int) + 80) ((ln : Int) + 80) (by omega) (by omega) (by rw [hz1]; omega) (by rw [hz2]; omega) (by omega)
    rw [h, show ((ln : Int) + 80).toNat = N by omega, hmc, hz1]
  have hms : mc.size = N := by rw [hmc]; simp [size_madeCells]
  have HMS := Lib.hid hms
  have HNN := Lib.hid hNN
  clear hp hln hv hb hms hmc hi0 hz0 hz1 hz2 hNN
  go_enter Try.func30, Try.ntmps30
  have hN2 : ln + 80 ≤ N := by have := HNN.out; omega
  have hN3 : N ≤ ln + 80 := by have := HNN.out; omega
  go_wp2_with (with_reducible refine wpList_copy_splice rfl (.tmp 11) (.tmp 12) 22 22 rfl 5 Try.underlying22 (by kernel_rfl) (some ⟨w.heap.size, 0, none⟩) p.ad N N ln p.cap rfl rfl w.heap.size 0 mc.toList 5 ?_ (Lib.byteCells p.l) ?_ ?_ ?_ ?_ w.heap.size w ((Below.refl _ _).alloc (Nat.le_refl _) _) (Nat.le_refl _) ?_)
  · exact Bk.new rfl _ _
  · simp only [Lib.byteCells, List.length_map, ← HLN.out]; exact (Nat.min_eq_left (by omega)).symm
  · intro h
    obtain ⟨ad, e, hc⟩ := (HP.out.keep ((Below.refl w.heap.size w).alloc (Nat.le_refl _) (.cells mc 5))).cells (by simpa [Lib.byteCells] using h)
    exact ⟨ad, e, hc⟩
  · simp [Lib.byteCells, ← HLN.out, HMS.out]; omega
  · intro v hv
    simp [Lib.byteCells] at hv
    obtain ⟨b, _, rfl⟩ := hv
    rfl
  · intro w1 hw1 hb1
    have hsz : (splice mc.toList 0 (Lib.byteCells p.l)).toArray.size = N := by
      rw [List.size_toArray, length_splice _ _ _ (by simp [Lib.byteCells, ← HLN.out, HMS.out]; omega)]
      simp [HMS.out]
    have hfst : ∀ t, t < ln → (splice mc.toList 0 (Lib.byteCells p.l)).toArray[t]? = some (.int .u8 ((p.l ++ List.replicate 80 x).getD t 0).toNat) := by
      intro t ht
      have ht2 : t < p.l.length := by rw [← HLN.out]; exact ht
      unfold splice
      simp only [List.take_zero, List.nil_append, List.getElem?_toArray]
      rw [List.getElem?_append_left (by simpa [Lib.byteCells] using ht2)]
      simp [Lib.byteCells, ht2, List.getD, List.getElem?_append_left]
    have hB1 : Hid (Bk w1 w.heap.size 5 (splice mc.toList 0 (Lib.byteCells p.l)).toArray) := hw1
    generalize (splice mc.toList 0 (Lib.byteCells p.l)).toArray = cs1 at hsz hfst hB1
    have HSZ := Lib.hid hsz
    have HF := Lib.hid hfst
    clear hsz hfst hw1 hmk
    go_wp2_with fail
    go_loopw [6] (fun i wr => ∃ (ix : Nat) (cs : Array Value), ln ≤ ix ∧ ix ≤ N ∧ i = .int .i64 ix ∧ Hid (cs.size = N) ∧ Hid (∀ t, t < ix → cs[t]? = some (.int .u8 ((p.l ++ List.replicate 80 x).getD t 0).toNat)) ∧ Hid (Bk wr w.heap.size 5 cs) ∧ Below w.heap.size w wr) (fun i _ => N - (intOf i).toNat)
    case atStart => exact ⟨ln, cs1, Nat.le_refl _, by omega, rfl, HSZ, HF, hB1, hb1⟩
    case round =>
      clear hb1 hB1 HSZ HF
      obtain ⟨ix, cs, h1, h2, rfl, hs, hf, hB, bw⟩ := hrel
      by_cases hlt : ix < N
      · have k0 : wr.cell? ⟨w.heap.size, ix, none⟩ = some cs[ix]! := by
          rw [hB.out.cell]
          have : ix < cs.size := by rw [hs.out]; exact hlt
          simp [this]
        have f0 : wr.frozen? ⟨w.heap.size, ix, none⟩ = false := hB.out.fr ix
        generalize cs[ix]! = old at k0
        go_wp2_with fail
        have B2 := Lib.hid (hB.out.put ix (.int .u8 (b : Int)))
        have bw2 : Below w.heap.size w (wr.setCell ⟨w.heap.size, ix, none⟩ (.int .u8 (b : Int))) := bw.setCell (p := ⟨w.heap.size, ix, none⟩) (Nat.le_refl _) _
        generalize wr.setCell ⟨w.heap.size, ix, none⟩ (.int .u8 (b : Int)) = w2 at B2 bw2 ⊢
        clear k0 f0 bw
        go_roundw
        case rel =>
          refine ⟨ix + 1, cs.setIfInBounds ix (.int .u8 (b : Int)), by omega, by omega, by go_num, Lib.hid (by simp [hs.out]), Lib.hid (fun t ht => ?_), B2, bw2⟩
          by_cases ht2 : t = ix
          · subst ht2
            rw [Array.getElem?_setIfInBounds_self_of_lt (by rw [hs.out]; exact hlt), HB.out]
            have hnl : ¬ t < p.l.length := by rw [← HLN.out]; omega
            have : t - p.l.length < 80 := by rw [← HLN.out]; omega
            rw [padX_at _ _ _ (Nat.le_of_not_lt hnl) this]
          · rw [Array.getElem?_setIfInBounds_ne (fun e => ht2 e.symm)]
            exact hf.out t (by omega)
        case measure => simp [intOf]; omega
      · obtain rfl : ix = N := by omega
        go_wp2_with fail
        go_ret
        have hl : (p.l ++ List.replicate 80 x).length = ix := by rw [padX_len, ← HLN.out]; omega
        have e : cs = (Lib.byteCells (p.l ++ List.replicate 80 x)).toArray := by
          apply Array.ext (by rw [hs.out, List.size_toArray]; simp only [Lib.byteCells, List.length_map]; exact hl.symm)
          intro t a1 a2
          have h := hf.out t (by rw [← hs.out]; exact a1)
          rw [Array.getElem?_eq_getElem a1] at h
          injection h with h
          rw [h]
          have : t < (p.l ++ List.replicate 80 x).length := by rw [hl, ← hs.out]; exact a1
          simp only [Lib.byteCells, List.getElem_toArray, List.getElem_map, List.getD, List.getElem?_eq_getElem this, Option.getD_some]
        have hin := bk_pt (w := wr) (g := w.heap.size) (t := 5) (l := p.l ++ List.replicate 80 x) (by rw [← e]; exact hB.out)
        rw [hl] at hin
        refine ⟨⟨some ⟨w.heap.size, 0, none⟩, ix, p.l ++ List.replicate 80 x⟩, ?_, rfl, hin, bw⟩
        unfold Pt.V; simp only [hl]; rfl
set_option maxHeartbeats 4000000 in
set_option maxRecDepth 100000 in
theorem intact_any (q p : Pt) (x : UInt8) (w : World) (hq : q.In w w.heap.size) (hp : p.In w w.heap.size) (hN : p.l.length ≤ 100000) (he : q.l = p.l ++ List.replicate 80 x) :
    Calls Try.prog 35 #[q.V, p.V, .int .u8 x.toNat] w fun e w' => e = .returned (.bool true) ∧ Below w.heap.size w w' := by
  have HP := Lib.hid hp
  have HQ := Lib.hid hq
  have HE := Lib.hid he
  obtain ⟨ln, hln⟩ : ∃ x, x = p.l.length := ⟨_, rfl⟩
  have hv : p.V = .slice p.ad ln p.cap := by rw [hln]; rfl
  obtain ⟨N, hNN⟩ : ∃ N, N = ln + 80 := ⟨_, rfl⟩
  have hql : q.l.length = N := by rw [he, padX_len, ← hln, hNN]
  have hv2 : q.V = .slice q.ad N q.cap := by rw [← hql]; rfl
  have hqc : N ≤ q.cap := by rw [← hql]; exact hq.cap
  have hN2 : ln + 80 ≤ N := by omega
  have hN3 : N ≤ ln + 80 := by omega
  rw [hv, hv2]
  have HLN := Lib.hid hln
  have HNN := Lib.hid hNN
  have HQL := Lib.hid hql
  rw [← hln] at hN
  obtain ⟨b, hb⟩ : ∃ b : Nat, b = x.toNat := ⟨_, rfl⟩
  rw [← hb]
  have HB := Lib.hid hb
  have HV := Lib.hid hv
  have SM := Lib.hid (show ∀ W : World, Below w.heap.size w W → Calls Try.prog 65 #[.slice q.ad ln q.cap, .slice p.ad ln p.cap] W fun e w' => e = .returned (.bool true) ∧ Below W.heap.size W w' from fun W hW => by
    have hlen : (q.l.take ln).length = ln := by rw [List.length_take, hql]; omega
    have e1 : (Pt.mk q.ad q.cap (q.l.take ln)).V = .slice q.ad ln q.cap := by unfold Pt.V; simp only [hlen]
    have i1 : (Pt.mk q.ad q.cap (q.l.take ln)).In W W.heap.size := by
      refine ⟨by simp only [hlen]; omega, hq.nil, fun h0 => ?_⟩
      simp only [hlen] at h0 ⊢
      obtain ⟨a, o, e, ha, hcc⟩ := hq.read (by omega)
      refine ⟨a, o, e, by have := hW.size; omega, fun i hi => ?_⟩
      rw [(hW.cell (p := ⟨a, o + i, none⟩) ha).trans (hcc i (by omega))]
      simp [List.getD, List.getElem?_take, hi]
    have h := bsame_any ⟨q.ad, q.cap, q.l.take ln⟩ p W i1 ((hp.keep hW).more hW.size) (by
      show q.l.take ln = p.l
      rw [he, hln, List.take_left]) (by simp only [hlen]; omega)
    rw [e1, hv] at h; exact h)
  clear hp hq hln hv hNN hql hv2 he hb
  go_enter Try.func35, Try.ntmps35
  go_wp2_with fail
  refine (SM.out w (Below.refl _ _)).mono ?_
  rintro e w1 ⟨rfl, b1⟩
  go_wp2_with fail
  go_loopw [7] (fun i wr => ∃ ix : Nat, ln ≤ ix ∧ ix ≤ N ∧ i = .int .i64 ix ∧ Below w.heap.size w wr) (fun i _ => N - (intOf i).toNat)
  case atStart => exact ⟨ln, Nat.le_refl _, by omega, rfl, b1⟩
  case round =>
    clear b1
    obtain ⟨ix, h1, h2, rfl, bw⟩ := hrel
    by_cases hlt : ix < N
    · obtain ⟨a, o, e, ha, hc⟩ := HQ.out.read (by rw [HQL.out]; omega)
      have c1 : wr.cell? ⟨a, o + ix, none⟩ = some (.int .u8 (b : Int)) := by
        rw [(bw.cell (p := ⟨a, o + ix, none⟩) ha).trans (hc ix (by rw [HQL.out]; exact hlt)), HE.out, HB.out, padX_at _ _ _ (by rw [← HLN.out]; omega) (by rw [← HLN.out]; omega)]
      rw [e]
      clear hc e
      go_wp2_with fail
      go_roundw
      case rel => exact ⟨ix + 1, by omega, by omega, by go_num, ⟨bw.os, bw.tape, bw.output, bw.size, bw.block⟩⟩
      case measure => simp [intOf]; omega
    · obtain rfl : ix = N := by omega
      go_wp2_with fail
      go_ret
      exact ⟨rfl, bw⟩
end Go.Proofs.Ytkneeocicbadjaa
