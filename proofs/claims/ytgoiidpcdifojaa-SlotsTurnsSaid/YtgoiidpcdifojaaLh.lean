/- walks: bytes.Equal, blend.Same -/
import Derived.Test.YtgoiidpcdifojaaHpA
import Derived.Laws.BytesArg
namespace Go.Proofs.Ytgoiidpcdifojaa.Sm
open Go.RowKit
def strL (l : List UInt8) : ByteArray := ⟨l.toArray⟩
theorem toList_beq (s t : ByteArray) : (s.toList == t.toList) = decide (s = t) := by
  rw [ByteArray.toList_eq, ByteArray.toList_eq]
  by_cases h : s = t
  · subst h; simp
  · have : ¬ s.data.toList = t.data.toList := fun e => h (by cases s; cases t; simp at e; rw [e])
    rw [decide_eq_false h]
    exact beq_eq_false_iff_ne.2 this
theorem map_back (l : List UInt8) : List.map ((fun n : Int => UInt8.ofNat n.toNat) ∘ fun b : UInt8 => (b.toNat : Int)) l = l := by
  induction l with
  | nil => rfl
  | cons x m ih => simp only [List.map_cons, ih]; simp
set_option maxRecDepth 100000 in
theorem pt_conv (p : Pt) (w : World) {B : Nat} (h : p.In w B) : (convert 27 9 (.slice p.ad p.l.length p.cap)).run Try.prog w = .ok (.string (strL p.l)) w := by
  by_cases h0 : 0 < p.l.length
  · obtain ⟨a, o, e, _, hc⟩ := h.read h0
    have hx := run_convert_bytes_arg (P := Try.prog) w 27 5 Try.underlying27 Try.underlying5 a o p.l.length p.cap (p.l.map fun b => (b.toNat : Int)) (by simp) (fun i hi => by rw [hc i hi]; simp [List.getD, hi]) 9 Try.underlying9
    rw [e, hx]
    congr 2
    unfold strOfNums strL
    congr 1
    simp
    exact map_back p.l
  · have hl : p.l = [] := List.eq_nil_of_length_eq_zero (by omega)
    rw [hl]
    rw [run_convert_bytes_string w 27 9 5 _ _ _ Try.underlying27 Try.underlying5 Try.underlying9]
    cases p.ad <;> simp [Conv.bytesToString, loadCells]
    all_goals rfl
theorem strL_eq (l m : List UInt8) : (strL l = strL m) ↔ l = m := by
  unfold strL
  constructor
  · intro h
    injection h with h
    simpa using congrArg Array.toList h
  · intro h; rw [h]
set_option maxHeartbeats 2000000 in
set_option maxRecDepth 100000 in
theorem equal_any (p q : Pt) (w : World) {B : Nat} (hp : p.In w B) (hq : q.In w B) :
    Calls Try.prog 47 #[p.V, q.V] w fun e w' => e = .returned (.bool (decide (p.l = q.l))) ∧ w = w' := by
  have c1 := pt_conv p w hp
  have c2 := pt_conv q w hq
  obtain ⟨s, hs⟩ : ∃ s, s = strL p.l := ⟨_, rfl⟩
  obtain ⟨t, ht⟩ : ∃ s, s = strL q.l := ⟨_, rfl⟩
  rw [← hs] at c1
  rw [← ht] at c2
  have hd : decide (p.l = q.l) = decide (s = t) := by rw [hs, ht]; exact decide_eq_decide.2 (strL_eq _ _).symm
  have HD := Lib.hid hd
  clear hs ht hd
  unfold Pt.V
  generalize p.l.length = n1 at c1 ⊢
  generalize q.l.length = n2 at c2 ⊢
  go_enter Try.func47, Try.ntmps47
  go_wp2_with fail
  go_ret
  refine ⟨smret (congrArg Value.bool ?_), rfl⟩
  rw [HD.out]
  exact toList_beq s t
end Go.Proofs.Ytgoiidpcdifojaa.Sm
