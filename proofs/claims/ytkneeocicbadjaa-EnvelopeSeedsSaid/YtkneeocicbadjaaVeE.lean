/- what was sealed is opened; known of chapter 4 -/
import Derived.Test.YtkneeocicbadjaaVeD
import Derived.Lib.SlBytesConst
namespace Go.Proofs.Ytkneeocicbadjaa
open Go.RowKit
theorem sealL_len (kl : List UInt8) (n : Int) (A t : List UInt8) : (sealL kl n A t).length = t.length + 8 := by
  unfold sealL; rw [List.length_append, hidL_len, strm_len, markL_len]
theorem hid_hid (Z t : List UInt8) (h : Z.length = t.length) : hidL Z (hidL Z t) = t := by
  apply List.ext_getElem (by rw [hidL_len, h])
  intro i h1 h2
  have h3 : i < Z.length := by omega
  have e : (hidL Z t).getD i 0 = Z.getD i 0 ^^^ t.getD i 0 := by simp [hidL, List.getD, h3]
  have e2 : (hidL Z (hidL Z t))[i] = Z.getD i 0 ^^^ (hidL Z t).getD i 0 := by simp [hidL, List.getD, h3]
  rw [e2, e, ← UInt8.xor_assoc, UInt8.xor_self, UInt8.zero_xor]
  simp [List.getD, h2]
theorem open_seal (kl : List UInt8) (n : Int) (A t : List UInt8) (hA : A.length ≤ 8192) (ht : t.length ≤ 8184) : openL kl n A (sealL kl n A t) = some t := by
  have hl := sealL_len kl n A t
  have hh : (hidL (streamL kl n t.length) t).length = t.length := by rw [hidL_len, strm_len]
  have e1 : (sealL kl n A t).take t.length = hidL (streamL kl n t.length) t := by
    unfold sealL
    rw [List.take_append_of_le_length (by rw [hh]; exact Nat.le_refl _), List.take_of_length_le (by rw [hh]; exact Nat.le_refl _)]
  have e2 : (sealL kl n A t).drop t.length = markL kl n A t := by
    unfold sealL
    rw [List.drop_append_of_le_length (by rw [hh]; exact Nat.le_refl _), List.drop_of_length_le (by rw [hh]; exact Nat.le_refl _), List.nil_append]
  unfold openL
  rw [if_neg (by rw [hl]; omega), hl, Nat.add_sub_cancel, e1, e2, hid_hid _ _ (strm_len _ _ _), if_pos rfl]
theorem open_short (kl : List UInt8) (n : Int) (A b : List UInt8) (h : b.length < 8) : openL kl n A b = none := by
  unfold openL; rw [if_pos (.inl h)]
theorem lit_pt (W : World) (l : List UInt8) (fr : Nat × Nat) : (Pt.mk (some ⟨W.heap.size, 0, none⟩) l.length l).In (W.alloc (.cells (Lib.byteCells l).toArray 5 fr)) (W.alloc (.cells (Lib.byteCells l).toArray 5 fr)).heap.size := by
  refine ⟨Nat.le_refl _, (fun h => by cases h), fun _ => ⟨W.heap.size, 0, rfl, by simp, fun i hi => ?_⟩⟩
  have h := heap_alloc_new W (.cells (Lib.byteCells l).toArray 5 fr)
  unfold World.cell?
  rw [show (⟨W.heap.size, 0 + i, none⟩ : Addr).block = W.heap.size from rfl, h]
  simp only at hi
  simp [Lib.byteCells, List.getD, hi]
set_option maxHeartbeats 4000000 in
set_option maxRecDepth 100000 in
theorem known4_any (w : World) :
    Calls Try.prog 46 #[] w fun e w' => e = .returned (.bool true) ∧ Below w.heap.size w w' := by
  have hcv := fun (w : World) (C : Array Value) (n c : Nat) => Lib.run_convert_bytes_const (P := Try.prog) w 22 5 C n c Try.underlying22 Try.underlying5
  have hcv2 : ∀ (W : World) (o : Obj) (C : Array Value) (n c : Nat), (convert 22 22 (.slice (some ⟨W.heap.size + 1, 0, none⟩) n c)).run Try.prog ((W.alloc o).alloc (.cells C 5)) = .ok (.slice (some ⟨W.heap.size + 1, 0, none⟩) n c) ((W.alloc o).alloc (.cells C 5 (C.size, C.size + 1))) := fun W o C n c => by
    have h := hcv (W.alloc o) C n c
    rw [show (W.alloc o).heap.size = W.heap.size + 1 by simp] at h
    exact h
  obtain ⟨S, hS⟩ : ∃ S, S = sealL [1, 0, 0, 0, 0, 0, 0, 0, 0, 0, 0, 0, 0, 0, 0, 0] 2 [97, 100] [116, 101, 120, 116] := ⟨_, rfl⟩
  have HSl := Lib.hid (show S.length = 12 by rw [hS, sealL_len]; rfl)
  have SE : Hid (∀ (W : World) (p q : Pt), p.l = [97, 100] → q.l = [116, 101, 120, 116] → p.In W W.heap.size → q.In W W.heap.size → Calls Try.prog 43 #[(.agg #[.int .u8 1, .int .u8 0, .int .u8 0, .int .u8 0, .int .u8 0, .int .u8 0, .int .u8 0, .int .u8 0, .int .u8 0, .int .u8 0, .int .u8 0, .int .u8 0, .int .u8 0, .int .u8 0, .int .u8 0, .int .u8 0]), .int .u64 2, p.V, q.V] W (PtPost S W)) := Lib.hid (fun W p q h1 h2 i1 i2 => by
    have h := seal_any [1, 0, 0, 0, 0, 0, 0, 0, 0, 0, 0, 0, 0, 0, 0, 0] rfl 2 (by omega) (by omega) p q W i1 i2 (by rw [h1]; decide) (by rw [h2]; decide)
    rw [h1, h2, ← hS] at h
    exact h)
  have O1 : Hid (∀ (W : World) (p b : Pt), p.l = [97, 100] → b.l = S → p.In W W.heap.size → b.In W W.heap.size → Calls Try.prog 47 #[(.agg #[.int .u8 1, .int .u8 0, .int .u8 0, .int .u8 0, .int .u8 0, .int .u8 0, .int .u8 0, .int .u8 0, .int .u8 0, .int .u8 0, .int .u8 0, .int .u8 0, .int .u8 0, .int .u8 0, .int .u8 0, .int .u8 0]), .int .u64 2, p.V, b.V] W (OpenPost (some [116, 101, 120, 116]) W)) := Lib.hid (fun W p b h1 h2 i1 i2 => by
    have h := open_any [1, 0, 0, 0, 0, 0, 0, 0, 0, 0, 0, 0, 0, 0, 0, 0] rfl 2 (by omega) (by omega) p b W i1 i2
    rw [h1, h2, hS, open_seal _ _ _ _ (by decide) (by decide)] at h
    exact h)
  have O2 : Hid (∀ (W : World) (p b : Pt), p.l = [97, 100] → b.l = [115, 104, 111, 114, 116] → p.In W W.heap.size → b.In W W.heap.size → Calls Try.prog 47 #[(.agg #[.int .u8 1, .int .u8 0, .int .u8 0, .int .u8 0, .int .u8 0, .int .u8 0, .int .u8 0, .int .u8 0, .int .u8 0, .int .u8 0, .int .u8 0, .int .u8 0, .int .u8 0, .int .u8 0, .int .u8 0, .int .u8 0]), .int .u64 2, p.V, b.V] W (OpenPost none W)) := Lib.hid (fun W p b h1 h2 i1 i2 => by
    have h := open_any [1, 0, 0, 0, 0, 0, 0, 0, 0, 0, 0, 0, 0, 0, 0, 0] rfl 2 (by omega) (by omega) p b W i1 i2
    rw [h1, h2, open_short _ _ _ _ (by decide)] at h
    exact h)
  clear hS
  go_enter Try.func46, Try.ntmps46
  go_wp2_with fail
  obtain ⟨W1, hW1⟩ : ∃ W, W = w.alloc (.cells #[.int .u8 97, .int .u8 100] 5 (2, 3)) := ⟨_, rfl⟩
  obtain ⟨W2, hW2⟩ : ∃ W, W = W1.alloc (.cells #[.int .u8 116, .int .u8 101, .int .u8 120, .int .u8 116] 5 (4, 5)) := ⟨_, rfl⟩
  have x1 : Ex w W1 := by rw [hW1]; exact (Below.refl _ _).alloc (Nat.le_refl _) _
  have x2 : Ex W1 W2 := by rw [hW2]; exact (Below.refl _ _).alloc (Nat.le_refl _) _
  have i1 : (Pt.mk (some ⟨w.heap.size, 0, none⟩) 2 [97, 100]).In W2 W2.heap.size := by
    have h := lit_pt w [97, 100] (2, 3)
    have h : (Pt.mk (some ⟨w.heap.size, 0, none⟩) 2 [97, 100]).In W1 W1.heap.size := by rw [hW1]; exact h
    exact h.ext x2
  have s1 : W1.heap.size = w.heap.size + 1 := by rw [hW1]; simp
  have i2 : (Pt.mk (some ⟨w.heap.size + 1, 0, none⟩) 4 [116, 101, 120, 116]).In W2 W2.heap.size := by
    have h := lit_pt W1 [116, 101, 120, 116] (4, 5)
    rw [s1] at h
    rw [hW2]; exact h
  rw [← hW1, ← hW2]
  have SC := SE.out W2 _ _ rfl rfl i1 i2
  have SC : Hid (Calls Try.prog 43 #[(.agg #[.int .u8 1, .int .u8 0, .int .u8 0, .int .u8 0, .int .u8 0, .int .u8 0, .int .u8 0, .int .u8 0, .int .u8 0, .int .u8 0, .int .u8 0, .int .u8 0, .int .u8 0, .int .u8 0, .int .u8 0, .int .u8 0]), .int .u64 2, .slice (some ⟨w.heap.size, 0, none⟩) 2 2, .slice (some ⟨w.heap.size + 1, 0, none⟩) 4 4] W2 (PtPost S W2)) := Lib.hid SC
  have x12 := Ex.trans x1 x2
  clear hW1 hW2 i1 i2 s1 x1 x2 SE
  refine SC.out.mono ?_
  rintro e w1 ⟨r, rfl, rl, ri, x3⟩
  have bw1 : Below w.heap.size w w1 := Ex.trans x12 x3
  have hrv : r.V = .slice r.ad 12 r.cap := by unfold Pt.V; rw [rl, HSl.out]
  rw [hrv]
  have HRV := Lib.hid hrv
  have RL := Lib.hid rl
  have RI := Lib.hid ri
  clear x12 x3 hrv rl ri SC
  go_wp2_with fail
  obtain ⟨W3, hW3⟩ : ∃ W, W = w1.alloc (.cells #[.int .u8 97, .int .u8 100] 5 (2, 3)) := ⟨_, rfl⟩
  have x3 : Ex w1 W3 := by rw [hW3]; exact (Below.refl _ _).alloc (Nat.le_refl _) _
  have i3 : (Pt.mk (some ⟨w1.heap.size, 0, none⟩) 2 [97, 100]).In W3 W3.heap.size := by
    have h := lit_pt w1 [97, 100] (2, 3)
    rw [hW3]; exact h
  rw [← hW3]
  have OC := O1.out W3 _ r rfl RL.out i3 (RI.out.ext x3)
  rw [HRV.out] at OC
  have OC : Hid (Calls Try.prog 47 #[(.agg #[.int .u8 1, .int .u8 0, .int .u8 0, .int .u8 0, .int .u8 0, .int .u8 0, .int .u8 0, .int .u8 0, .int .u8 0, .int .u8 0, .int .u8 0, .int .u8 0, .int .u8 0, .int .u8 0, .int .u8 0, .int .u8 0]), .int .u64 2, .slice (some ⟨w1.heap.size, 0, none⟩) 2 2, .slice r.ad 12 r.cap] W3 (OpenPost (some [116, 101, 120, 116]) W3)) := Lib.hid OC
  have bw3 : Below w.heap.size w W3 := bw1.trans (x3.mono bw1.size)
  have bz3 := bw3.size
  clear hW3 x3 i3 O1 bw1 RL RI HRV
  refine OC.out.mono ?_
  rintro e w4 ⟨q, rfl, ql, qi, x4⟩
  have bw4 : Below w.heap.size w w4 := bw3.trans (x4.mono bz3)
  have hqv : q.V = .slice q.ad 4 q.cap := by unfold Pt.V; rw [ql]; rfl
  rw [hqv]
  have QL := Lib.hid ql
  have QI := Lib.hid qi
  clear x4 hqv ql qi OC bw3 bz3
  go_wp2_with fail
  obtain ⟨W5, hW5⟩ : ∃ W, W = w4.alloc (.cells #[.int .u8 97, .int .u8 100] 5 (2, 3)) := ⟨_, rfl⟩
  obtain ⟨W6, hW6⟩ : ∃ W, W = W5.alloc (.cells #[.int .u8 115, .int .u8 104, .int .u8 111, .int .u8 114, .int .u8 116] 5 (5, 6)) := ⟨_, rfl⟩
  have x5 : Ex w4 W5 := by rw [hW5]; exact (Below.refl _ _).alloc (Nat.le_refl _) _
  have x6 : Ex W5 W6 := by rw [hW6]; exact (Below.refl _ _).alloc (Nat.le_refl _) _
  have i5 : (Pt.mk (some ⟨w4.heap.size, 0, none⟩) 2 [97, 100]).In W6 W6.heap.size := by
    have h := lit_pt w4 [97, 100] (2, 3)
    have h : (Pt.mk (some ⟨w4.heap.size, 0, none⟩) 2 [97, 100]).In W5 W5.heap.size := by rw [hW5]; exact h
    exact h.ext x6
  have s5 : W5.heap.size = w4.heap.size + 1 := by rw [hW5]; simp
  have i6 : (Pt.mk (some ⟨w4.heap.size + 1, 0, none⟩) 5 [115, 104, 111, 114, 116]).In W6 W6.heap.size := by
    have h := lit_pt W5 [115, 104, 111, 114, 116] (5, 6)
    rw [s5] at h
    rw [hW6]; exact h
  rw [← hW5, ← hW6]
  have OC := O2.out W6 _ _ rfl rfl i5 i6
  have OC : Hid (Calls Try.prog 47 #[(.agg #[.int .u8 1, .int .u8 0, .int .u8 0, .int .u8 0, .int .u8 0, .int .u8 0, .int .u8 0, .int .u8 0, .int .u8 0, .int .u8 0, .int .u8 0, .int .u8 0, .int .u8 0, .int .u8 0, .int .u8 0, .int .u8 0]), .int .u64 2, .slice (some ⟨w4.heap.size, 0, none⟩) 2 2, .slice (some ⟨w4.heap.size + 1, 0, none⟩) 5 5] W6 (OpenPost none W6)) := Lib.hid OC
  have x56 := Ex.trans x5 x6
  have bw6 : Below w.heap.size w W6 := bw4.trans (x56.mono bw4.size)
  have QI := Lib.hid (QI.out.ext x56)
  have bz6 := bw6.size
  clear hW5 hW6 x5 x6 x56 i5 i6 s5 O2 bw4
  refine OC.out.mono ?_
  rintro e w7 ⟨rfl, x7⟩
  have bw7 : Below w.heap.size w w7 := bw6.trans (x7.mono bz6)
  have cv := pt_conv q w7 (QI.out.ext x7)
  rw [QL.out] at cv
  have cv : (convert 22 9 (.slice q.ad 4 q.cap)).run Try.prog w7 = .ok (.string ⟨#[116, 101, 120, 116]⟩) w7 := cv
  clear x7 QI QL bw6 bz6 OC hcv hcv2
  go_wp2_with fail
  go_ret
  exact ⟨rfl, bw7⟩
end Go.Proofs.Ytkneeocicbadjaa
