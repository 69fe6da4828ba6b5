/- MVeE -/
import Derived.Test.YtopamplmpfndlaaEat
import Derived.Lib.SlBytesConst
set_option maxRecDepth 100000
set_option maxHeartbeats 16000000
namespace Go.Proofs.Ytopamplmpfndlaa.Sm
open Go.RowKit
theorem sealL_len (kl : List UInt8) (n : Int) (A t : List UInt8) : (sealL kl n A t).length = t.length + 8 := by
 unfold sealL; rw [List.length_append, hidL_len, strm_len, markL_len]
theorem hid_hid (Z t : List UInt8) (h : Z.length = t.length) : hidL Z (hidL Z t) = t := by
 apply List.ext_getElem (by rw [hidL_len, h])
 intro i h1 h2
 have h3 : i < Z.length := by omega
 have e : (hidL Z t).getD i 0 = Z.getD i 0 ^^^ t.getD i 0 := by simp [hidL, List.getD, h3]
 have e2 : (hidL Z (hidL Z t))[i] = Z.getD i 0 ^^^ (hidL Z t).getD i 0 := by simp [hidL, List.getD, h3]
 rw [e2, e, ← UInt8.xor_assoc, UInt8.xor_self, UInt8.zero_xor]
 simp [List.getD, h2]
theorem open_seal (kl : List UInt8) (n : Int) (A t : List UInt8) (hA : A.length ≤ 8192) (ht : t.length ≤ 8184) : openL kl n A (sealL kl n A t) = some t := by
 have hl := sealL_len kl n A t
 have hh : (hidL (streamL kl n t.length) t).length = t.length := by rw [hidL_len, strm_len]
 have e1 : (sealL kl n A t).take t.length = hidL (streamL kl n t.length) t := by
  unfold sealL
  rw [List.take_append_of_le_length (by rw [hh]; exact Nat.le_refl _), List.take_of_length_le (by rw [hh]; exact Nat.le_refl _)]
 have e2 : (sealL kl n A t).drop t.length = markL kl n A t := by
  unfold sealL
  rw [List.drop_append_of_le_length (by rw [hh]; exact Nat.le_refl _), List.drop_of_length_le (by rw [hh]; exact Nat.le_refl _), List.nil_append]
 unfold openL
 rw [if_neg (by rw [hl]; omega), hl, Nat.add_sub_cancel, e1, e2, hid_hid _ _ (strm_len _ _ _), if_pos rfl]
theorem lit_pt (W : World) (l : List UInt8) (fr : Nat × Nat) : (Pt.mk (some ⟨W.heap.size, 0, none⟩) l.length l).In (W.alloc (.cells (Lib.byteCells l).toArray 5 fr)) (W.alloc (.cells (Lib.byteCells l).toArray 5 fr)).heap.size := by
 refine ⟨Nat.le_refl _, (fun h => by cases h), fun _ => ⟨W.heap.size, 0, rfl, by simp, fun i hi => ?_⟩⟩
 have h := heap_alloc_new W (.cells (Lib.byteCells l).toArray 5 fr)
 unfold World.cell?
 rw [show (⟨W.heap.size, 0 + i, none⟩ : Addr).block = W.heap.size from rfl, h]
 simp only at hi
 simp [Lib.byteCells, List.getD, hi]
end Go.Proofs.Ytopamplmpfndlaa.Sm
