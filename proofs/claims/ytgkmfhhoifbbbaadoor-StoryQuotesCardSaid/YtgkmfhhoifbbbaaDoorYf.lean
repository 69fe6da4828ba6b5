/- Unquote; the document's Signs, and the text of what it tells. -/
import Derived.Test.YtgkmfhhoifbbbaaDoorYe
import Derived.Laws.Cover4
import Derived.Laws.OwnMore
namespace Go.Proofs.YtgkmfhhoifbbbaaDoor
open Go Go.RowKit
def unquoteV (t : List UInt8) : Value := match quotedF t with
  | none => .tuple #[.string ⟨#[]⟩, .bool false]
  | some (q, n) => if n < t.length then .tuple #[.string ⟨#[]⟩, .bool false] else .tuple #[.string ⟨(encL q).toArray⟩, .bool true]
set_option maxHeartbeats 2000000 in
set_option maxRecDepth 100000 in
theorem unquote_any (s : ByteArray) (hs : s.size ≤ 1099511627776) (w : World) :
    Calls Tryd.prog 16 #[.string s] w fun e w' => e = .returned (unquoteV s.data.toList) ∧ Below w.heap.size w w' := by
  have hc := quoted_any s hs w
  have hl := len_list s
  unfold quotedV at hc
  unfold unquoteV
  cases hq : quotedF s.data.toList with
  | none =>
    rw [hq] at hc
    go_enter Tryd.func16, Tryd.ntmps16
    go_wp2_with (go_at_call 30; refine hc.mono ?_; rintro e w' ⟨rfl, b1⟩)
    go_ret2
    exact ⟨rfl, b1⟩
  | some x =>
    obtain ⟨q, n⟩ := x
    obtain ⟨_, _, _, hn⟩ := quotedF_inv hq
    rw [hq] at hc
    rw [hl] at hn ⊢
    by_cases h : n < s.size
    · have g : ((n : Int) < (s.size : Int)) := by omega
      simp only [if_pos h]
      go_enter Tryd.func16, Tryd.ntmps16
      go_wp2_with (go_at_call 30; refine hc.mono ?_; rintro e w' ⟨rfl, b1⟩)
      go_ret2
      exact ⟨rfl, b1⟩
    · have g : ¬ ((n : Int) < (s.size : Int)) := by omega
      simp only [if_neg h]
      go_enter Tryd.func16, Tryd.ntmps16
      go_wp2_with (go_at_call 30; refine hc.mono ?_; rintro e w' ⟨rfl, b1⟩)
      go_ret2
      exact ⟨rfl, b1⟩
theorem info21 : (Tryd.prog.info? 21).map (fun i => (i.zero, i.size, i.bytes)) = some (some (.int .i32 0), 1, 4) := by kernel_rfl
def runeCellsOf (l : List Nat) : List Value := l.map fun (r : Nat) => Value.int .i32 (r : Int)
theorem runeCellsOf_length (l : List Nat) : (runeCellsOf l).length = l.length := by simp [runeCellsOf]
theorem runeCellsOf_append (a b : List Nat) : runeCellsOf (a ++ b) = runeCellsOf a ++ runeCellsOf b := by simp [runeCellsOf]
set_option maxHeartbeats 2000000 in
set_option maxRecDepth 100000 in
theorem refSigns_any (s : ByteArray) (hs : s.size ≤ 35184372088832) (w : World) :
    Calls Tryd.prog 17 #[.string s] w fun e w' => ∃ v, e = .returned v ∧ w'.ownsRow w.heap.size 21 1 v (signs s).length (runeCellsOf (signs s)) ∧ Below w.heap.size w w' := by
  obtain ⟨i0, hi, hz0, hz1, hz2⟩ := info_parts info21
  have hsl : (signs s).length ≤ s.size := by have := sg_length s s.size 0; unfold signs; omega
  go_enter Tryd.func17, Tryd.ntmps17
  go_wp2
  obtain ⟨K, hK⟩ : ∃ K, K = w.heap.size := ⟨_, rfl⟩
  have hit0 : (w.iter s 0).heap[K]? = some (.stringIter s 0) := by rw [hK]; exact World.iter_heap w s 0
  have hbel0 : Below K w (w.iter s 0) := by rw [hK]; exact (Below.refl _ _).alloc (Nat.le_refl _) _
  have hsz0 : K ≤ (w.iter s 0).heap.size := by rw [hK]; exact hbel0.size
  rw [← hK]
  have HK := Lib.hid hK
  clear hK
  go_loopw [3] (fun v wr => ∃ (pos b : Nat) (acc : List Nat), wr.heap[K]? = some (.stringIter s pos) ∧ wr.ownsRow K 21 1 v acc.length (runeCellsOf acc) ∧ acc ++ sg s b pos = signs s ∧ s.size ≤ pos + b ∧ acc.length ≤ pos ∧ Below K w wr ∧ K ≤ wr.heap.size)
    (fun _ wr => s.size - wr.iterPos K)
  case atStart => exact ⟨0, s.size, [], hit0, World.ownsRow_nil _ _ _ _, rfl, by omega, by simp, hbel0, hsz0⟩
  case round =>
    obtain ⟨pos, b, acc, hit, hown, hc, hb, hk, hbl, hsz⟩ := hrel
    clear hit0 hbel0 hsz0
    obtain ⟨va, vc, rfl, hlen, _⟩ := own_len hown
    by_cases hp : pos < s.size
    · have hnx : ∀ ty, (Instr.next (.pointer (some ⟨K, 0, none⟩)) true ty).run Tryd.prog wr = _ := fun ty => Lib.run_next_any_at wr K s pos ty hit hp
      have hwd := width_pos s pos hp
      have hit2 := Lib.iterAt_heap wr K s pos (pos + (Utf8.decode s pos).2) hit
      have hown2 := own_iterAt hown hit (pos + (Utf8.decode s pos).2)
      have hbl2 := Lib.below_iterAt hbl (Nat.le_refl _) s (pos + (Utf8.decode s pos).2)
      have hsz2 : K ≤ (wr.iterAt K s (pos + (Utf8.decode s pos).2)).heap.size := by rw [Lib.iterAt_size]; exact hsz
      obtain ⟨b', rfl⟩ : ∃ b', b = b' + 1 := ⟨b - 1, by omega⟩
      have hsg : sg s (b' + 1) pos = (Utf8.decode s pos).1 :: sg s b' (pos + (Utf8.decode s pos).2) := by simp [sg, hp]
      rw [hsg] at hc
      clear hsg
      have HC := Lib.hid hc
      clear hc
      obtain ⟨wn, hwn⟩ : ∃ wn, wn = wr.iterAt K s (pos + (Utf8.decode s pos).2) := ⟨_, rfl⟩
      have hips : wr.iterPos K = pos := iterPos_of hit
      rw [← hwn] at hit2 hown2 hbl2 hnx hsz2
      obtain ⟨r, hr⟩ : ∃ r, r = (Utf8.decode s pos).1 := ⟨_, rfl⟩
      obtain ⟨wd, hwdd⟩ : ∃ wd, wd = (Utf8.decode s pos).2 := ⟨_, rfl⟩
      rw [← hr] at hnx HC
      rw [← hwdd] at hit2 HC hwd
      clear hr hwdd hwn hit hown hbl hsz hsl
      go_wp2_with (first
        | (at_builtin; refine wpList_append_own _ rfl _ _ 47 rfl K 21 i0 (.int .i32 0) 1 4 Tryd.underlying47 hi hz0 hz1 hz2 rfl (by decide) _ _ _ rfl (hown2.alloc _) ⟨wn.heap.size, 0, none⟩ 1 1 [.int .i32 r] rfl rfl ?c1 ?c2 ?c3 ?c4 ?c5 ?_))
      case c1 =>
        intro j u hj
        match j, hj with
        | 0, hj => simp at hj; subst hj; simp [Addr.add]
      case c2 => intro u hu; simp at hu; subst hu; rfl
      case c3 => unfold maxLen; omega
      case c4 => omega
      case c5 => simp; omega
      · intro v' w3 hown3 hgrow3 _
        have hl3 : (runeCellsOf acc ++ [Value.int IntKind.i32 r]) = runeCellsOf (acc ++ [r]) := by rw [runeCellsOf_append]; rfl
        rw [hl3] at hown3
        have hit3 : w3.heap[K]? = some (.stringIter s (pos + wd)) := iter_grown (World.cell_new_iter wn _ hit2) hgrow3 (own_ne_iter hown2 hit2)
        have hbl3 : Below K w w3 := (hbl2.alloc hsz2 _).grown hgrow3 (by simp; omega) (by
          intro k hk; exact (hown2.lt k hk).1)
        have hsz3 : K ≤ w3.heap.size := Nat.le_trans (by simp; omega) hgrow3.size
        clear hown2 hgrow3 hl3
        go_wp2
        go_roundw
        case rel => exact ⟨pos + wd, b', acc ++ [r], hit3, by simpa using hown3, by rw [← HC.out]; simp, by omega, by simp; omega, hbl3, hsz3⟩
        case measure => rw [hips, iterPos_of hit3]; omega
    · have hnx : ∀ ty, (Instr.next (.pointer (some ⟨K, 0, none⟩)) true ty).run Tryd.prog wr = _ := fun ty => Lib.run_next_end_at wr K s pos ty hit hp
      rw [sg_end s b pos hp, List.append_nil] at hc
      subst hc
      go_wp2
      go_ret
      exact ⟨_, rfl, HK.out ▸ hown, HK.out ▸ hbl⟩
theorem runes_enc : ∀ (l : List Nat), okRunes l → ∀ acc : List UInt8, (l.map fun (r : Nat) => (r : Int)).foldl (fun r n => r ++ Utf8.encode n) (⟨acc.toArray⟩ : ByteArray) = ⟨(acc ++ encL l).toArray⟩
  | [], _, acc => by simp [encL]
  | r :: l, h, acc => by
    have hr : r ≤ 1114111 := by have := h r (by simp); unfold okRune at this; omega
    simp only [List.map_cons, List.foldl_cons]
    rw [encode_ok r hr]
    have e : (⟨acc.toArray⟩ : ByteArray) ++ ⟨(Lib.encodeRune (r : Int)).toArray⟩ = ⟨(acc ++ Lib.encodeRune (r : Int)).toArray⟩ := by
      apply ByteArray.ext
      simp
    rw [e, runes_enc l (fun x hx => h x (by simp [hx])) _, encL_cons, List.append_assoc]
theorem runesBytes_enc (l : List Nat) (h : okRunes l) : runesBytes (l.map fun (r : Nat) => (r : Int)) = ⟨(encL l).toArray⟩ := by
  have h1 := runes_enc l h []
  rw [List.nil_append] at h1
  exact h1
/-- a row of runes whose text is that of l, in every world in which it still lies as it lay -/
def StrOf (v : Value) (l : List Nat) (w : World) : Prop := ∀ w', (∀ k, k < w.heap.size → w'.heap[k]? = w.heap[k]?) → (convert 47 9 v).run Tryd.prog w' = .ok (.string ⟨(encL l).toArray⟩) w'
theorem StrOf.here {v : Value} {l : List Nat} {w : World} (h : StrOf v l w) : (convert 47 9 v).run Tryd.prog w = .ok (.string ⟨(encL l).toArray⟩) w := h w (fun _ _ => rfl)
theorem StrOf.drew {v : Value} {l : List Nat} {w : World} (h : StrOf v l w) : StrOf v l w.drew := h
theorem StrOf.below {v : Value} {l : List Nat} {w w' : World} (h : StrOf v l w) (hb : Below w.heap.size w w') : StrOf v l w' := fun w2 h2 => h w2 (fun k hk => by rw [h2 k (Nat.lt_of_lt_of_le hk hb.size), hb.block k hk])
theorem signs_str (s : ByteArray) (hs : s.size ≤ 35184372088832) (w : World) :
    Calls Tryd.prog 17 #[.string s] w fun e w' => ∃ v, e = .returned v ∧ Below w.heap.size w w' ∧ StrOf v (signs s) w' := by
  refine (refSigns_any s hs w).mono ?_
  rintro e w' ⟨v, rfl, hown, hb⟩
  refine ⟨v, rfl, hb, ?_⟩
  intro w2 h2
  rcases hown.2 with ⟨rfl, h0⟩ | ⟨g, cap, cur, rfl, _, hg, hk⟩
  · rw [run_convert_runes_nil _ 47 9 21 0 0 Tryd.underlying47 Tryd.underlying21 Tryd.underlying9]
    have hl : signs s = [] := List.eq_nil_of_length_eq_zero h0
    rw [hl]; rfl
  · have hlt : g < w'.heap.size := (Array.getElem?_eq_some_iff.1 hg).1
    rw [run_convert_runes _ 47 9 21 ⟨g, 0, none⟩ _ cap ((signs s).map fun (r : Nat) => (r : Int)) (by simp) Tryd.underlying47 Tryd.underlying21 Tryd.underlying9 ?_]
    · rw [List.take_of_length_le (by simp), runesBytes_enc _ (signs_ok s)]
    · intro j hj
      simp at hj
      have e1 : (⟨g, 0, none⟩ : Addr).add j = ⟨g, j, none⟩ := by rw [Addr.add_lit]; simp
      have e2 : w2.cell? ⟨g, j, none⟩ = w'.cell? ⟨g, j, none⟩ := World.cell?_of_block (w := w') (h2 g hlt)
      rw [e1, e2, hown.cellAt j (by omega)]
      simp [runeCellsOf, List.getElem?_eq_getElem hj, List.getD]
end Go.Proofs.YtgkmfhhoifbbbaaDoor
