/- walks: the document's own Signs, Masked; the builder's WriteRune; Masked -/
import Derived.Test.YtiomokjidipjkaaA2
import Derived.Test.YtiomokjidipjkaaA7
import Derived.Test.YtiomokjidipjkaaShelf
import Derived.Laws.Cover4
import Derived.Laws.OwnMore
namespace Go.Proofs.Ytiomokjidipjkaa
open Go.RowKit
def runeCellsOf (l : List Nat) : List Value := l.map fun (r : Nat) => Value.int .i32 (r : Int)
theorem runeCellsOf_length (l : List Nat) : (runeCellsOf l).length = l.length := by simp [runeCellsOf]
theorem runeCellsOf_append (a b : List Nat) : runeCellsOf (a ++ b) = runeCellsOf a ++ runeCellsOf b := by simp [runeCellsOf]
set_option maxHeartbeats 2000000 in
set_option maxRecDepth 100000 in
theorem refSigns_any (s : ByteArray) (hs : s.size ≤ 35184372088832) (w : World) :
    Calls Try.prog 18 #[.string s] w fun e w' => ∃ v, e = .returned v ∧ w'.ownsRow w.heap.size 21 1 v (signs s).length (runeCellsOf (signs s)) ∧ Below w.heap.size w w' := by
  obtain ⟨i0, hi, hz0, hz1, hz2⟩ := info_parts Try.info21
  have hsl : (signs s).length ≤ s.size := by have := sg_length s s.size 0; unfold signs; omega
  go_enter Try.func18, Try.ntmps18
  go_wp2
  obtain ⟨K, hK⟩ : ∃ K, K = w.heap.size := ⟨_, rfl⟩
  have hit0 : (w.iter s 0).heap[K]? = some (.stringIter s 0) := by rw [hK]; exact World.iter_heap w s 0
  have hbel0 : Below K w (w.iter s 0) := by rw [hK]; exact (Below.refl _ _).alloc (Nat.le_refl _) _
  have hsz0 : K ≤ (w.iter s 0).heap.size := by rw [hK]; exact hbel0.size
  rw [← hK]
  have HK := Lib.hid hK
  clear hK
  go_loopw [3] (fun v wr => ∃ (pos b : Nat) (acc : List Nat), wr.heap[K]? = some (.stringIter s pos) ∧ wr.ownsRow K 21 1 v acc.length (runeCellsOf acc) ∧ acc ++ sg s b pos = signs s ∧ s.size ≤ pos + b ∧ acc.length ≤ pos ∧ Below K w wr ∧ K ≤ wr.heap.size)
    (fun _ wr => s.size - wr.iterPos K)
  case atStart => exact ⟨0, s.size, [], hit0, World.ownsRow_nil _ _ _ _, rfl, by omega, by simp, hbel0, hsz0⟩
  case round =>
    obtain ⟨pos, b, acc, hit, hown, hc, hb, hk, hbl, hsz⟩ := hrel
    clear hit0 hbel0 hsz0
    obtain ⟨va, vc, rfl, hlen, _⟩ := own_len hown
    by_cases hp : pos < s.size
    · have hnx : ∀ ty, (Instr.next (.pointer (some ⟨K, 0, none⟩)) true ty).run Try.prog wr = _ := fun ty => Lib.run_next_any_at wr K s pos ty hit hp
      have hwd := width_pos s pos hp
      have hit2 := Lib.iterAt_heap wr K s pos (pos + (Utf8.decode s pos).2) hit
      have hown2 := own_iterAt hown hit (pos + (Utf8.decode s pos).2)
      have hbl2 := Lib.below_iterAt hbl (Nat.le_refl _) s (pos + (Utf8.decode s pos).2)
      have hsz2 : K ≤ (wr.iterAt K s (pos + (Utf8.decode s pos).2)).heap.size := by rw [Lib.iterAt_size]; exact hsz
      obtain ⟨b', rfl⟩ : ∃ b', b = b' + 1 := ⟨b - 1, by omega⟩
      have hsg : sg s (b' + 1) pos = (Utf8.decode s pos).1 :: sg s b' (pos + (Utf8.decode s pos).2) := by simp [sg, hp]
      rw [hsg] at hc
      clear hsg
      have HC := Lib.hid hc
      clear hc
      obtain ⟨wn, hwn⟩ : ∃ wn, wn = wr.iterAt K s (pos + (Utf8.decode s pos).2) := ⟨_, rfl⟩
      have hips : wr.iterPos K = pos := iterPos_of hit
      rw [← hwn] at hit2 hown2 hbl2 hnx hsz2
      obtain ⟨r, hr⟩ : ∃ r, r = (Utf8.decode s pos).1 := ⟨_, rfl⟩
      obtain ⟨wd, hwdd⟩ : ∃ wd, wd = (Utf8.decode s pos).2 := ⟨_, rfl⟩
      rw [← hr] at hnx HC
      rw [← hwdd] at hit2 HC hwd
      clear hr hwdd hwn hit hown hbl hsz hsl
      go_wp2_with (first
        | (at_builtin; refine wpList_append_own _ rfl _ _ 22 rfl K 21 i0 (.int .i32 0) 1 4 Try.underlying22 hi hz0 hz1 hz2 rfl (by decide) _ _ _ rfl (hown2.alloc _) ⟨wn.heap.size, 0, none⟩ 1 1 [.int .i32 r] rfl rfl ?c1 ?c2 ?c3 ?c4 ?c5 ?_))
      case c1 =>
        intro j u hj
        match j, hj with
        | 0, hj => simp at hj; subst hj; simp [Addr.add]
      case c2 => intro u hu; simp at hu; subst hu; rfl
      case c3 => unfold maxLen; omega
      case c4 => omega
      case c5 => simp; omega
      · intro v' w3 hown3 hgrow3 _
        have hl3 : (runeCellsOf acc ++ [Value.int IntKind.i32 r]) = runeCellsOf (acc ++ [r]) := by rw [runeCellsOf_append]; rfl
        rw [hl3] at hown3
        have hit3 : w3.heap[K]? = some (.stringIter s (pos + wd)) := iter_grown (World.cell_new_iter wn _ hit2) hgrow3 (own_ne_iter hown2 hit2)
        have hbl3 : Below K w w3 := (hbl2.alloc hsz2 _).grown hgrow3 (by simp; omega) (by
          intro k hk; exact (hown2.lt k hk).1)
        have hsz3 : K ≤ w3.heap.size := Nat.le_trans (by simp; omega) hgrow3.size
        clear hown2 hgrow3 hl3
        go_wp2
        go_roundw
        case rel => exact ⟨pos + wd, b', acc ++ [r], hit3, by simpa using hown3, by rw [← HC.out]; simp, by omega, by simp; omega, hbl3, hsz3⟩
        case measure => rw [hips, iterPos_of hit3]; omega
    · have hnx : ∀ ty, (Instr.next (.pointer (some ⟨K, 0, none⟩)) true ty).run Try.prog wr = _ := fun ty => Lib.run_next_end_at wr K s pos ty hit hp
      rw [sg_end s b pos hp, List.append_nil] at hc
      subst hc
      go_wp2
      go_ret
      exact ⟨_, rfl, HK.out ▸ hown, HK.out ▸ hbl⟩
/-- all but the last two are dots -/
def maskL : List Nat → List Nat
  | [] => []
  | r :: rs => (if 2 ≤ rs.length then 8226 else r) :: maskL rs
theorem maskL_length : ∀ l, (maskL l).length = l.length
  | [] => rfl
  | _ :: rs => by simp [maskL, maskL_length rs]
def encL (l : List Nat) : List UInt8 := l.flatMap fun (r : Nat) => Lib.encodeRune (r : Int)
def maskB (s : ByteArray) : ByteArray := ⟨(encL (maskL (signs s))).toArray⟩

def dotK (k : Nat) (l : List Nat) : List Nat := List.replicate k 8226 ++ l.drop k
theorem dotK_length (k : Nat) (l : List Nat) (h : k ≤ l.length) : (dotK k l).length = l.length := by simp [dotK]; omega
theorem dotK_set (k : Nat) (l : List Nat) (h : k < l.length) : (dotK k l).set k 8226 = dotK (k + 1) l := by
  unfold dotK
  apply List.ext_getElem
  · simp; omega
  · intro i h1 h2
    simp only [List.getElem_set, List.getElem_append, List.length_replicate, List.getElem_replicate, List.getElem_drop]
    by_cases e : k = i
    · subst e; simp
    · by_cases e2 : i < k
      · simp [e, e2, show i < k + 1 by omega]
      · simp [e, e2, show ¬ i < k + 1 by omega]
        congr 1; omega
theorem dotK_end : ∀ (l : List Nat) (k : Nat), (k + 2 = l.length ∨ (k = 0 ∧ l.length ≤ 2)) → dotK k l = maskL l
  | [], k, h => by
    have : k = 0 := by simp at h; omega
    subst this; rfl
  | r :: rs, k, h => by
    cases k with
    | zero =>
      have h2 : rs.length ≤ 1 := by simp at h; omega
      have key : ∀ (m : List Nat), m.length ≤ 2 → maskL m = m := by
        intro m hm
        match m, hm with
        | [], _ => rfl
        | [a], _ => rfl
        | [a, b], _ => rfl
        | a :: b :: c :: d, hm => simp at hm
      rw [key (r :: rs) (by simp; omega)]
      simp [dotK]
    | succ k =>
      have h2 : k + 2 = rs.length := by simp at h; omega
      have ih := dotK_end rs k (.inl h2)
      simp only [maskL, if_pos (show 2 ≤ rs.length by omega), ← ih]
      simp [dotK, List.replicate_succ]
theorem encode_ok (r : Nat) (h : r ≤ 1114111) : Utf8.encode (r : Int) = ⟨(Lib.encodeRune (r : Int)).toArray⟩ := by
  have hv : Utf8.valid (r : Int) = true ↔ (r < 55296 ∨ (57344 ≤ r ∧ r ≤ 1114111)) := by
    simp [Utf8.valid]; omega
  have tb : ∀ n : Nat, UInt8.ofNat n = (n : Int).toNat.toUInt8 := fun n => rfl
  unfold Utf8.encode Lib.encodeRune
  by_cases hc : Utf8.valid (r : Int) = true
  · have hv' := hv.1 hc
    simp only [hc, if_true, Int.toNat_natCast]
    by_cases c1 : r < 128
    · rw [if_pos c1, Lib.encodeRuneZ_one (by omega) (by omega)]; rfl
    · rw [if_neg c1]
      by_cases c2 : r < 2048
      · rw [if_pos c2, Lib.encodeRuneZ_two (by omega) (by omega)]
        simp only [List.map_cons, List.map_nil]
        congr 2
      · rw [if_neg c2]
        by_cases c3 : r < 65536
        · rw [if_pos c3, Lib.encodeRuneZ_three (by omega)]
          rfl
        · rw [if_neg c3, Lib.encodeRuneZ_four (by omega) (by omega)]
          rfl
  · have hv' : ¬ (r < 55296 ∨ (57344 ≤ r ∧ r ≤ 1114111)) := fun e => hc (hv.2 e)
    have hc' : Utf8.valid (r : Int) = false := by simpa using hc
    simp only [hc', Bool.false_eq_true, if_false]
    rw [Lib.encodeRuneZ_bad (by omega)]
    rfl
end Go.Proofs.Ytiomokjidipjkaa
