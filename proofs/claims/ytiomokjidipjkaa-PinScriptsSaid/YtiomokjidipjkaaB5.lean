/- the law PinMasks, walked -/
import Derived.Test.YtiomokjidipjkaaB3
import Derived.Test.YtiomokjidipjkaaPure2
namespace Go.Proofs.Ytiomokjidipjkaa
open Go.RowKit
def Dig (a : List UInt8) : Prop := ∀ x ∈ a, 48 ≤ x.toNat ∧ x.toNat ≤ 57
theorem dgb_dig (r : Nat) (h : 0 ≤ dg (r : Int)) : 48 ≤ (dgb (r : Int)).toNat ∧ (dgb (r : Int)).toNat ≤ 57 := by
  have h1 := dgb_val (r : Int) h
  have h2 := dg_range (r : Int)
  omega
theorem nl_dig : ∀ (l : List Nat) (acc a : List UInt8), nl acc l = some a → Dig acc → acc.length ≤ 12 → Dig a ∧ a.length ≤ 12
  | [], acc, a, h, hd, hl => by simp [nl] at h; subst h; exact ⟨hd, hl⟩
  | r :: rs, acc, a, h, hd, hl => by
    rw [nl_cons] at h
    split at h
    · exact nl_dig rs acc a h hd hl
    · rename_i c2
      split at h
      · cases h
      · rename_i c1
        have := dg_range (r : Int)
        refine nl_dig rs _ a h ?_ (by simp; omega)
        intro x hx
        rcases List.mem_append.1 hx with hx | hx
        · exact hd x hx
        · simp at hx; subst hx; exact dgb_dig r (by omega)
theorem nl_id : ∀ (a acc : List UInt8), Dig a → acc.length + a.length ≤ 12 → nl acc (a.map UInt8.toNat) = some (acc ++ a)
  | [], acc, _, _ => by simp [nl]
  | x :: a, acc, hd, hl => by
    have hx := hd x (by simp)
    have hdg : dg (x.toNat : Int) = x.toNat - 48 := by have := dg_cases (x.toNat : Int); omega
    rw [List.map_cons, nl_cons, if_neg (by omega), if_neg (by simp at hl; omega)]
    have hb : dgb (x.toNat : Int) = x := by
      have := dgb_val (x.toNat : Int) (by omega)
      apply UInt8.toNat_inj.1
      omega
    rw [hb, nl_id a (acc ++ [x]) (fun y hy => hd y (by simp [hy])) (by simp at hl ⊢; omega)]
    simp
theorem enc_ascii : ∀ (a : List UInt8), (∀ x ∈ a, x.toNat ≤ 127) → encL (a.map UInt8.toNat) = a
  | [], _ => rfl
  | x :: a, h => by
    have hx := h x (by simp)
    rw [List.map_cons, encL_cons, enc_ascii a (fun y hy => h y (by simp [hy]))]
    have : Lib.encodeRune (x.toNat : Int) = [x] := by
      simp only [Lib.encodeRune, Lib.encodeRuneZ_one (show (0 : Int) ≤ x.toNat by omega) (by omega), List.map_cons, List.map_nil]
      congr 1
      apply UInt8.toNat_inj.1
      exact b8 _ (UInt8.toNat_lt _)
    rw [this]; rfl
theorem signs_ascii (a : List UInt8) (h : ∀ x ∈ a, x.toNat ≤ 127) : signs ⟨a.toArray⟩ = a.map UInt8.toNat := by
  have := signs_enc (a.map UInt8.toNat) (by
    intro r hr
    obtain ⟨x, hx, rfl⟩ := List.mem_map.1 hr
    have := h x hx
    unfold okRune; omega)
  rwa [enc_ascii a h] at this
theorem nrm_again {l : List Nat} {a : List UInt8} (h : nrm l = some a) : nrm (signs ⟨a.toArray⟩) = some a ∧ signs ⟨a.toArray⟩ = a.map UInt8.toNat ∧ a.length ≤ 12 := by
  unfold nrm at h
  split at h
  · cases h
  · rename_i x hx
    split at h
    · cases h
    · rename_i h4
      simp at h; subst h
      obtain ⟨hd, hl⟩ := nl_dig l [] x hx (by intro y hy; simp at hy) (by simp)
      have hs := signs_ascii x (fun y hy => by have := hd y hy; omega)
      refine ⟨?_, hs, hl⟩
      rw [hs]; unfold nrm
      rw [nl_id x [] hd (by simpa using hl)]
      simp [h4]
theorem encL_size : ∀ l : List Nat, (encL l).length ≤ 4 * l.length
  | [] => by simp [encL]
  | r :: l => by
    have := encL_size l
    have h4 := Lib.runeCells_le (r : Int)
    rw [Lib.runeCells_length] at h4
    rw [encL_cons]; simp; omega
theorem maskB_size (s : ByteArray) : (maskB s).size ≤ 4 * s.size := by
  have h := encL_size (maskL (signs s))
  have hsl : (signs s).length ≤ s.size := by have := sg_length s s.size 0; unfold signs; omega
  rw [maskL_length] at h
  have : (maskB s).size = (encL (maskL (signs s))).length := by simp [maskB, ByteArray.size]
  omega
theorem mask_at : ∀ (l : List Nat) (k : Nat) (r : Nat) (rs : List Nat), (maskL l).drop k = r :: rs → k + 2 < l.length → r = 8226
  | [], k, r, rs, h, _ => by simp [maskL] at h
  | a :: l, 0, r, rs, h, hk => by
    simp only [maskL, List.drop_zero, List.cons.injEq] at h
    rw [← h.1, if_pos (by simp at hk; omega)]
  | a :: l, k + 1, r, rs, h, hk => by
    simp only [maskL, List.drop_succ_cons] at h
    exact mask_at l k r rs h (by simp at hk; omega)

set_option maxHeartbeats 4000000 in
set_option maxRecDepth 100000 in
theorem masks_walk (s : ByteArray) (w : World) (hs : s.size ≤ maxLen) :
    Calls Try.prog 6 #[.string s] w fun e w' => e = .returned (.bool true) ∧ Below w.heap.size w w' := by
  unfold maxLen at hs
  obtain ⟨s0, hs0, hcut⟩ : ∃ s0 : ByteArray, s0.size ≤ 50 ∧ ((50 < s.size ∧ s0 = s.extract 0 50) ∨ (s.size ≤ 50 ∧ s0 = s)) := by
    by_cases h : 50 < s.size
    · exact ⟨s.extract 0 50, by simp; omega, .inl ⟨h, rfl⟩⟩
    · exact ⟨s, by omega, .inr ⟨by omega, rfl⟩⟩
  have hms := maskB_size s0
  obtain ⟨n, hn⟩ : ∃ n, n = (signs s0).length := ⟨_, rfl⟩
  have hn50 : n ≤ 50 := by have := sg_length s0 s0.size 0; rw [hn]; unfold signs; omega
  have hcm := fun w => (count_any (maskB s0) (by unfold maxLen; omega) w).mono (fun e w' h => (show e = .returned (.int .i64 n) ∧ Below w.heap.size w w' from ⟨by rw [h.1, signs_mask, maskL_length, ← hn], h.2⟩))
  have hcs := fun w => (count_any s0 (by unfold maxLen; omega) w).mono (fun e w' h => (show e = .returned (.int .i64 n) ∧ Below w.heap.size w w' from ⟨by rw [h.1, ← hn], h.2⟩))
  have HCM := Lib.hid hcm
  have HCS := Lib.hid hcs
  have hsm := signs_mask s0
  have HSM := Lib.hid hsm
  have HN := Lib.hid hn
  clear hcm hcs hsm hn
  have hne : ((n : Int) != (n : Int)) = false := by simp
  -- what stands behind the cut, at s0
  have body : ∀ (Q : Prop), True := fun _ => trivial
  clear body
  rcases hcut with ⟨h60, hcut⟩ | ⟨h60, hcut⟩
  all_goals
    have HCut := Lib.hid hcut
    clear hcut
    go_enter Try.func6, Try.ntmps6
    go_wp2_with fail
    try rw [← HCut.out]
    refine (masked_any s0 (by omega) _).mono ?_
    rintro e w1 ⟨rfl, b1⟩
    go_wp2_with fail
    refine (HCM.out _).mono ?_
    rintro e w2 ⟨rfl, b2⟩
    go_wp2_with fail
    refine (HCS.out _).mono ?_
    rintro e w3 ⟨rfl, b3⟩
    go_wp2_with fail
    obtain ⟨K, hK⟩ : ∃ K, K = w3.heap.size := ⟨_, rfl⟩
    have hit0 : (w3.iter (maskB s0) 0).heap[K]? = some (.stringIter (maskB s0) 0) := by rw [hK]; exact World.iter_heap w3 _ 0
    have hb30 : Below K w3 (w3.iter (maskB s0) 0) := by rw [hK]; exact (Below.refl _ _).alloc (Nat.le_refl _) _
    have hsz0 : K ≤ (w3.iter (maskB s0) 0).heap.size := by rw [hK]; exact hb30.size
    rw [← hK]
    have hbw3 : Below w.heap.size w w3 := bump (bump b1 b2) b3
    have hwK : w.heap.size ≤ K := by rw [hK]; exact hbw3.size
    have HK := Lib.hid (And.intro hK (And.intro hbw3 hwK))
    clear hK hbw3 hwK b1 b2 b3
    obtain ⟨m, hm⟩ : ∃ m, m = maskB s0 := ⟨_, rfl⟩
    rw [← hm]
    rw [← hm] at hit0 hms hb30 hsz0
    have HM := Lib.hid hm
    clear hm
    go_loopw [4] (fun i wr => ∃ (k pos b : Nat), i = .int .i64 k ∧ wr.heap[K]? = some (.stringIter m pos) ∧ sg m b pos = (maskL (signs s0)).drop k ∧ m.size ≤ pos + b ∧ k ≤ n ∧ Below K w3 wr)
      (fun _ wr => m.size - wr.iterPos K)
    case atStart => exact ⟨0, 0, m.size, rfl, hit0, by rw [List.drop_zero, ← HSM.out, HM.out]; rfl, by omega, by omega, hb30⟩
    case round =>
      obtain ⟨k, pos, b, rfl, hit, hsg, hpb, hkn, hbl⟩ := hrel
      clear hit0 hb30 hsz0
      have hKs : K < wr.heap.size := (Array.getElem?_eq_some_iff.1 hit).1
      by_cases hp : pos < m.size
      · have hnx : ∀ ty, (Instr.next (.pointer (some ⟨K, 0, none⟩)) true ty).run Try.prog wr = _ := fun ty => Lib.run_next_any_at wr K m pos ty hit hp
        have hwd := width_pos m pos hp
        have hit2 := Lib.iterAt_heap wr K m pos (pos + (Utf8.decode m pos).2) hit
        have hbl2 := Lib.below_iterAt hbl (Nat.le_refl _) m (pos + (Utf8.decode m pos).2)
        have hsz2 : K < (wr.iterAt K m (pos + (Utf8.decode m pos).2)).heap.size := by rw [Lib.iterAt_size]; exact hKs
        obtain ⟨b', rfl⟩ : ∃ b', b = b' + 1 := ⟨b - 1, by omega⟩
        have hsg2 : sg m (b' + 1) pos = (Utf8.decode m pos).1 :: sg m b' (pos + (Utf8.decode m pos).2) := by simp [sg, hp]
        rw [hsg2] at hsg
        clear hsg2
        have hkn' : k < n := by
          have h1 : ((maskL (signs s0)).drop k).length = n - k := by rw [List.length_drop, maskL_length, HN.out]
          rw [← hsg] at h1; simp at h1; omega
        have hdot : (k : Int) + 2 < (n : Int) → (Utf8.decode m pos).1 = 8226 := fun h => mask_at (signs s0) k _ _ hsg.symm (by rw [← HN.out]; omega)
        have hnext : sg m b' (pos + (Utf8.decode m pos).2) = (maskL (signs s0)).drop (k + 1) := by
          rw [← List.drop_drop, ← hsg]; rfl
        have HNX := Lib.hid hnext
        clear hnext hsg
        have hips : wr.iterPos K = pos := iterPos_of hit
        obtain ⟨wn, hwn⟩ : ∃ wn, wn = wr.iterAt K m (pos + (Utf8.decode m pos).2) := ⟨_, rfl⟩
        rw [← hwn] at hit2 hbl2 hsz2 hnx
        obtain ⟨r, hr⟩ : ∃ r, r = (Utf8.decode m pos).1 := ⟨_, rfl⟩
        obtain ⟨wd, hwdd⟩ : ∃ wd, wd = (Utf8.decode m pos).2 := ⟨_, rfl⟩
        rw [← hr] at hnx hdot
        rw [← hwdd] at hit2 HNX hwd
        clear hr hwdd hwn hit hbl
        by_cases hk2 : (k : Int) + 2 < (n : Int)
        · have hr2 : ((r : Int) != 8226) = false := by rw [hdot hk2]; rfl
          clear hdot
          go_wp2_with fail
          refine (HCS.out _).mono ?_
          rintro e w4 ⟨rfl, b4⟩
          go_wp2
          have hit4 : w4.heap[K]? = some (.stringIter m (pos + wd)) := by rw [b4.block K hsz2]; exact hit2
          go_roundw
          case rel => exact ⟨k + 1, pos + wd, b', by go_num, hit4, HNX.out, by omega, by omega, hbl2.trans (b4.mono (by omega))⟩
          case measure => rw [hips, iterPos_of hit4]; omega
        · clear hdot
          go_wp2_with fail
          refine (HCS.out _).mono ?_
          rintro e w4 ⟨rfl, b4⟩
          go_wp2
          have hit4 : w4.heap[K]? = some (.stringIter m (pos + wd)) := by rw [b4.block K hsz2]; exact hit2
          go_roundw
          case rel => exact ⟨k + 1, pos + wd, b', by go_num, hit4, HNX.out, by omega, by omega, hbl2.trans (b4.mono (by omega))⟩
          case measure => rw [hips, iterPos_of hit4]; omega
      · have hnx : ∀ ty, (Instr.next (.pointer (some ⟨K, 0, none⟩)) true ty).run Try.prog wr = _ := fun ty => Lib.run_next_end_at wr K m pos ty hit hp
        have hbw : Below w.heap.size w wr := HK.out.2.1.trans (hbl.mono HK.out.2.2)
        clear hit hsg hbl
        cases hq : nrm (signs s0) with
        | none =>
          have hv := nrmV_none hq
          have r1 := fun w => (normal_any s0 w).mono (fun e w' h => (show e = .returned (.tuple #[.string ⟨#[]⟩, .bool false]) ∧ Below w.heap.size w w' from ⟨by rw [h.1, hv], h.2⟩))
          have R1 := Lib.hid r1
          clear r1 hv hq
          go_wp2_with fail
          refine (R1.out _).mono ?_
          rintro e w5 ⟨rfl, b5⟩
          go_wp2_with fail
          refine (known_any _).mono ?_
          rintro e w6 ⟨rfl, b6⟩
          go_wp2
          go_ret
          exact ⟨rfl, bump (bump hbw b5) b6⟩
        | some a =>
          have hv := nrmV_some hq
          obtain ⟨hq2, hsa, hal⟩ := nrm_again hq
          have hv2 := nrmV_some hq2
          have r1 := fun w => (normal_any s0 w).mono (fun e w' h => (show e = .returned (.tuple #[.string ⟨a.toArray⟩, .bool true]) ∧ Below w.heap.size w w' from ⟨by rw [h.1, hv], h.2⟩))
          have r2 := fun w => (normal_any ⟨a.toArray⟩ w).mono (fun e w' h => (show e = .returned (.tuple #[.string ⟨a.toArray⟩, .bool true]) ∧ Below w.heap.size w w' from ⟨by rw [h.1, hv2], h.2⟩))
          have hsza : (⟨a.toArray⟩ : ByteArray).size = a.length := by simp [ByteArray.size]
          have r3 := fun w => (count_any ⟨a.toArray⟩ (by rw [hsza]; unfold maxLen; omega) w).mono (fun e w' h => (show e = .returned (.int .i64 ((⟨a.toArray⟩ : ByteArray).size : Nat)) ∧ Below w.heap.size w w' from ⟨by rw [h.1, hsa, List.length_map, hsza], h.2⟩))
          have R1 := Lib.hid r1
          have R2 := Lib.hid r2
          have R3 := Lib.hid r3
          obtain ⟨d, hd⟩ : ∃ d : ByteArray, d = ⟨a.toArray⟩ := ⟨_, rfl⟩
          rw [← hd] at R1 R2 R3
          clear r1 r2 r3 hv hv2 hq hq2 hsa hsza hd
          go_wp2_with fail
          refine (R1.out _).mono ?_
          rintro e w5 ⟨rfl, b5⟩
          go_wp2_with fail
          refine (R2.out _).mono ?_
          rintro e w6 ⟨rfl, b6⟩
          go_wp2_with fail
          refine (R3.out _).mono ?_
          rintro e w7 ⟨rfl, b7⟩
          go_wp2_with fail
          refine (known_any _).mono ?_
          rintro e w8 ⟨rfl, b8⟩
          go_wp2
          go_ret
          exact ⟨rfl, bump (bump (bump (bump hbw b5) b6) b7) b8⟩
end Go.Proofs.Ytiomokjidipjkaa
