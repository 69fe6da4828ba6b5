/- MPnE -/
import Derived.Test.YtopamplmpfndlaaEbi
set_option maxRecDepth 100000
set_option maxHeartbeats 16000000
namespace Go.Proofs.Ytopamplmpfndlaa.Sm
open Go.RowKit
def rl (acc : List UInt8) : List Nat → Option (List UInt8)
 | [] => some acc
 | r :: rs => if dg r = -1 then none else if dg r = -2 then rl acc rs else rl (acc ++ [dgb r]) rs
theorem rl_cons (acc : List UInt8) (r : Nat) (rs : List Nat) : rl acc (r :: rs) = if dg r = -1 then none else if dg r = -2 then rl acc rs else rl (acc ++ [dgb r]) rs := rfl
theorem rl_len : ∀ (l : List Nat) (acc a : List UInt8), rl acc l = some a → acc.length ≤ a.length
 | [], acc, a, h => by simp [rl] at h; rw [h]; exact Nat.le_refl _
 | r :: rs, acc, a, h => by
  rw [rl_cons] at h
  split at h
  ·cases h
  ·split at h
   ·exact rl_len rs acc a h
   ·have := rl_len rs _ a h
    simp at this; omega
theorem nl_rl : ∀ (l : List Nat) (acc : List UInt8), acc.length ≤ 12 → nl acc l = (match rl acc l with | none => none | some a => if 12 < a.length then none else some a)
 | [], acc, h => by simp [nl, rl]; omega
 | r :: rs, acc, h => by
  rw [nl_cons, rl_cons]
  by_cases c2 : dg r = -2
  ·have : ¬ dg (r : Int) = -1 := by omega
   rw [if_pos c2, if_neg this, if_pos c2]
   exact nl_rl rs acc h
  ·rw [if_neg c2]
   by_cases c1 : dg r = -1
   ·rw [if_pos (.inl c1), if_pos c1]
   ·rw [if_neg c1, if_neg c2]
    by_cases c3 : acc.length = 12
    ·rw [if_pos (.inr c3)]
     cases h5 : rl (acc ++ [dgb r]) rs with
     | none => rfl
     | some a =>
      have := rl_len rs _ a h5
      simp at this
      simp; omega
    ·rw [if_neg (by simp [c1, c3])]
     exact nl_rl rs _ (by simp; omega)
theorem nrm_rl (l : List Nat) : nrm l = (match rl [] l with | none => none | some a => if a.length < 4 ∨ 12 < a.length then none else some a) := by
 unfold nrm
 rw [nl_rl l [] (by simp)]
 cases rl [] l with
 | none => rfl
 | some a =>
  by_cases h : 12 < a.length
  ·simp [h]
  ·simp [h]
theorem refNormal_any (s : ByteArray) (hs : s.size ≤ 140737488351232) (w : World) :
  Calls Try.prog 68 #[.string s] w fun e w' => e = .returned (nrmV (signs s)) ∧ Below w.heap.size w w' := by
 obtain ⟨i0, hi, hz0, hz1, hz2⟩ := info_parts Try.info5
 go_enter Try.func68, Try.ntmps68
 go_wp2
 obtain ⟨K, hK⟩ : ∃ K, K = w.heap.size := ⟨_, rfl⟩
 have hit0 : (w.iter s 0).heap[K]? = some (.stringIter s 0) := by rw [hK]; exact World.iter_heap w s 0
 have hbel0 : Below K w (w.iter s 0) := by rw [hK]; exact (Below.refl _ _).alloc (Nat.le_refl _) _
 have hsz0 : K ≤ (w.iter s 0).heap.size := by rw [hK]; exact hbel0.size
 rw [← hK]
 have HK := Lib.hid hK
 clear hK
 go_loopw [4] (fun v wr => ∃ (pos b : Nat) (acc : List UInt8), wr.heap[K]? = some (.stringIter s pos) ∧ wr.ownsRow K 5 1 v acc.length (Lib.byteCells acc) ∧ rl acc (sg s b pos) = rl [] (signs s) ∧ s.size ≤ pos + b ∧ acc.length ≤ pos ∧ Below K w wr ∧ K ≤ wr.heap.size)
  (fun _ wr => s.size - wr.iterPos K)
 case atStart => exact ⟨0, s.size, [], hit0, World.ownsRow_nil _ _ _ _, rfl, by omega, by simp, hbel0, hsz0⟩
 obtain ⟨pos, b, acc, hit, hown, hc, hb, hk, hbl, hsz⟩ := hrel
 clear hit0 hbel0 hsz0
 obtain ⟨va, vc, rfl, hlen, _⟩ := own_len hown
 by_cases hp : pos < s.size
 rotate_left
 ·have hnx : ∀ ty, (Instr.next (.pointer (some ⟨K, 0, none⟩)) true ty).run Try.prog wr = _ := fun ty => Lib.run_next_end_at wr K s pos ty hit hp
  rw [sg_end s b pos hp] at hc
  have hc' : rl [] (signs s) = some acc := hc.symm
  have hconv := own_bytes hown Try.prog 23 9 Try.underlying23 Try.underlying5 Try.underlying9
  by_cases h4 : acc.length < 4
  ·have hf : nrmV (signs s) = .tuple #[.string ⟨#[]⟩, .bool false] := by unfold nrmV; rw [nrm_rl, hc']; simp [h4]
   have HF := Lib.hid hf
   clear hf hc hc'
   go_wp2
   go_ret2
   exact ⟨ret_eq HF.out.symm, HK.out ▸ hbl⟩
  by_cases h12 : 12 < acc.length
  ·have hf : nrmV (signs s) = .tuple #[.string ⟨#[]⟩, .bool false] := by unfold nrmV; rw [nrm_rl, hc']; simp [h12]
   have HF := Lib.hid hf
   clear hf hc hc'
   go_wp2
   go_ret2
   exact ⟨ret_eq HF.out.symm, HK.out ▸ hbl⟩
  have hf : nrmV (signs s) = .tuple #[.string ⟨acc.toArray⟩, .bool true] := by unfold nrmV; rw [nrm_rl, hc']; simp [h4, h12]
  have HF := Lib.hid hf
  clear hf hc hc'
  go_wp2
  go_ret2
  exact ⟨ret_eq HF.out.symm, HK.out ▸ hbl⟩
 have hnx : ∀ ty, (Instr.next (.pointer (some ⟨K, 0, none⟩)) true ty).run Try.prog wr = _ := fun ty => Lib.run_next_any_at wr K s pos ty hit hp
 have hwd := width_pos s pos hp
 have hit2 := Lib.iterAt_heap wr K s pos (pos + (Utf8.decode s pos).2) hit
 have hown2 := own_iterAt hown hit (pos + (Utf8.decode s pos).2)
 have hbl2 := Lib.below_iterAt hbl (Nat.le_refl _) s (pos + (Utf8.decode s pos).2)
 have hsz2 : K ≤ (wr.iterAt K s (pos + (Utf8.decode s pos).2)).heap.size := by rw [Lib.iterAt_size]; exact hsz
 obtain ⟨b', rfl⟩ : ∃ b', b = b' + 1 := ⟨b - 1, by omega⟩
 have hsg : sg s (b' + 1) pos = (Utf8.decode s pos).1 :: sg s b' (pos + (Utf8.decode s pos).2) := by simp [sg, hp]
 rw [hsg, rl_cons] at hc
 clear hsg
 have hr0 := decode_le s pos
 have HC := Lib.hid hc
 clear hc
 obtain ⟨wn, hwn⟩ : ∃ wn, wn = wr.iterAt K s (pos + (Utf8.decode s pos).2) := ⟨_, rfl⟩
 have hips : wr.iterPos K = pos := iterPos_of hit
 rw [← hwn] at hit2 hown2 hbl2 hnx hsz2
 obtain ⟨r, hr⟩ : ∃ r, r = (Utf8.decode s pos).1 := ⟨_, rfl⟩
 obtain ⟨wd, hwdd⟩ : ∃ wd, wd = (Utf8.decode s pos).2 := ⟨_, rfl⟩
 rw [← hr] at hnx HC hr0
 rw [← hwdd] at hit2 HC hwd
 clear hr hwdd hwn hit hown hbl hsz
 have hrr := dg_range r
 by_cases c1 : dg r = -1
 ·rw [if_pos c1] at HC
  have hf : nrmV (signs s) = .tuple #[.string ⟨#[]⟩, .bool false] := by unfold nrmV; rw [nrm_rl, ← HC.out]
  have HF := Lib.hid hf
  have g1 : (dg (r : Int) == -1) = true := by simp [c1]
  clear hf HC c1
  go_wp2_with (first
   | (go_at_call 112; refine (refDigit_any _ _ (by omega) (by omega)).mono ?_; rintro e w' ⟨rfl, rfl⟩))
  go_ret2
  exact ⟨ret_eq HF.out.symm, HK.out ▸ hbl2⟩
 rw [if_neg c1] at HC
 have g1 : (dg (r : Int) == -1) = false := by simp [c1]
 by_cases c2 : dg r = -2
 ·rw [if_pos c2] at HC
  have g2 : ¬ (0 : Int) ≤ dg r := by omega
  clear c1 c2
  go_wp2_with (first
   | (go_at_call 112; refine (refDigit_any _ _ (by omega) (by omega)).mono ?_; rintro e w' ⟨rfl, rfl⟩))
  go_roundw
  case rel => exact ⟨pos + wd, b', acc, hit2, hown2, HC.out, by omega, by omega, hbl2, hsz2⟩
  case measure => rw [hips, iterPos_of hit2]; omega
 rw [if_neg c2] at HC
 have hd0 : 0 ≤ dg r := by omega
 have hd9 : dg r ≤ 9 := by omega
 have hv := dgb_val r hd0
 have HV := Lib.hid hv
 clear hv c1 c2
 go_wp2_with (first
  | (go_at_call 112; refine (refDigit_any _ _ (by omega) (by omega)).mono ?_; rintro e w' ⟨rfl, rfl⟩)
  | (at_builtin; refine wpList_append_own _ rfl _ _ 23 rfl K 5 i0 (.int .u8 0) 1 1 Try.underlying23 hi hz0 hz1 hz2 rfl (by decide) _ _ _ rfl (hown2.alloc _) ⟨wn.heap.size, 0, none⟩ 1 1 [.int .u8 (48 + dg r)] rfl rfl ?c1 ?c2 ?c3 ?c4 ?c5 ?_))
 case c1 =>
  intro j u hj
  match j, hj with
  | 0, hj => simp at hj; subst hj; simp [Addr.add]
 case c2 => intro u hu; simp at hu; subst hu; rfl
 case c3 => unfold maxLen; omega
 case c4 => omega
 case c5 => simp; omega
 ·intro v' w3 hown3 hgrow3 _
  have hl3 : (Lib.byteCells acc ++ [Value.int IntKind.u8 (48 + dg r)]) = Lib.byteCells (acc ++ [dgb r]) := by
   rw [Lib.byteCells_append]; simp [Lib.byteCells, HV.out]
  rw [hl3] at hown3
  have hit3 : w3.heap[K]? = some (.stringIter s (pos + wd)) := iter_grown (World.cell_new_iter wn _ hit2) hgrow3 (own_ne_iter hown2 hit2)
  have hbl3 : Below K w w3 := (hbl2.alloc hsz2 _).grown hgrow3 (by simp; omega) (by
   intro k hk; exact (hown2.lt k hk).1)
  have hsz3 : K ≤ w3.heap.size := Nat.le_trans (by simp; omega) hgrow3.size
  clear hown2 hgrow3 hl3
  go_wp2
  go_roundw
  case rel => exact ⟨pos + wd, b', acc ++ [dgb r], hit3, by simpa using hown3, HC.out, by omega, by simp; omega, hbl3, hsz3⟩
  case measure => rw [hips, iterPos_of hit3]; omega
end Go.Proofs.Ytopamplmpfndlaa.Sm
