/- The builder's writers over rows of bytes; the program's Quote: what it tells of any text. -/
import Derived.Test.YtgkmfhhoifbbbaaDoorYb
import Derived.Test.YtgkmfhhoifbbbaaDoorYd
import Derived.BigCall
namespace Go.Proofs.YtgkmfhhoifbbbaaDoor
open Go Go.RowKit
abbrev Bd (B b : Nat) (acc : List UInt8) (w : World) : Prop := Lib.IsBuilderF 62 5 B b (Lib.byteCells acc) w
theorem wb_any (B b : Nat) (acc : List UInt8) (z : Int) (x : UInt8) (hz : z = x.toNat) (w : World) (h : Bd B b acc w) (hl : acc.length ≤ 70368744177664) (hB : B ≤ w.heap.size) :
    Calls Tryd.prog 26 #[.pointer (some ⟨b, 0, none⟩), .int .u8 z] w fun e w' => e = .returned .nilIface ∧ Bd B b (acc ++ [x]) w' ∧ Below B w w' ∧ Lib.OthersKept 5 (some b) w w' := by
  refine (writeByte_k B b _ z w h (by rw [Lib.byteCells_length]; omega) hB).mono ?_
  rintro e W1 ⟨rfl, h1, b1, k1⟩
  refine ⟨rfl, ?_, b1, k1⟩
  unfold Bd
  rw [Lib.byteCells_append]
  have : Lib.byteCells [x] = [Value.int .u8 z] := by rw [hz]; rfl
  rw [this]
  exact Or.inr h1
theorem wr_any (B b : Nat) (acc : List UInt8) (r : Nat) (hr : r ≤ 1114111) (w : World) (h : Bd B b acc w) (hl : acc.length ≤ 70368744177664) (hB : B ≤ w.heap.size) :
    Calls Tryd.prog 27 #[.pointer (some ⟨b, 0, none⟩), .int .i32 (r : Int)] w fun e w' => (∃ n : Int, e = .returned (.tuple #[.int .i64 n, .nilIface])) ∧ Bd B b (acc ++ Lib.encodeRune (r : Int)) w' ∧ Below B w w' ∧ Lib.OthersKept 5 (some b) w w' := by
  refine (writeRune_k B b _ (r : Int) (by omega) (by omega) w h (by rw [Lib.byteCells_length]; omega) hB).mono ?_
  rintro e W1 ⟨rfl, h1, b1, k1⟩
  refine ⟨⟨_, rfl⟩, ?_, b1, k1⟩
  unfold Bd
  rw [Lib.byteCells_append, Lib.byteCells_encodeRune]
  exact Or.inr h1
theorem ws_any (B b : Nat) (acc : List UInt8) (s : ByteArray) (w : World) (h : Bd B b acc w) (hl : acc.length + s.size ≤ 140737488355328) (hB : B ≤ w.heap.size) :
    Calls Tryd.prog 28 #[.pointer (some ⟨b, 0, none⟩), .string s] w fun e w' => e = .returned (.tuple #[.int .i64 s.size, .nilIface]) ∧ Bd B b (acc ++ s.data.toList) w' ∧ Below B w w' ∧ Lib.OthersKept 5 (some b) w w' := by
  refine (writeString_k B b _ s w h (by rw [Lib.byteCells_length]; exact hl) hB).mono ?_
  rintro e W1 ⟨rfl, h1, b1, k1⟩
  refine ⟨rfl, ?_, b1, k1⟩
  unfold Bd
  rw [Lib.byteCells_append]
  exact Or.inr h1
theorem bs_any (B b : Nat) (acc : List UInt8) (w : World) (h : Bd B b acc w) (hB : B ≤ w.heap.size) :
    Calls Tryd.prog 29 #[.pointer (some ⟨b, 0, none⟩)] w fun e w' => e = .returned (.string ⟨acc.toArray⟩) ∧ Bd B b acc w' ∧ Below B w w' ∧ Lib.OthersKept 5 (some b) w w' := Tryd.Builder_String_any_k B b acc w h hB
theorem bd_lt {B b : Nat} {acc : List UInt8} {w : World} (h : Bd B b acc w) : b < w.heap.size := by
  rcases h with h | h
  · obtain ⟨_, v, hb, _⟩ := h; exact (Array.getElem?_eq_some_iff.1 hb).1
  · obtain ⟨_, v, hb, _⟩ := h; exact (Array.getElem?_eq_some_iff.1 hb).1
theorem bd_new (w : World) : Bd w.heap.size w.heap.size [] (w.alloc (.cells #[.pointer none, .slice none 0 0] 62)) := Lib.IsBuilderF.of (Lib.fresh_isBuilder 62 5 w)
set_option maxHeartbeats 4000000 in
set_option maxRecDepth 100000 in
theorem quote_any (s : ByteArray) (hs : s.size ≤ 4398046511104) (w : World) :
    Calls Tryd.prog 15 #[.string s] w fun e w' => e = .returned (.string ⟨(quoteL (signs s)).toArray⟩) ∧ Below w.heap.size w w' := by
  go_enter Tryd.func15, Tryd.ntmps15
  go_wp2_with (go_at_call 26; refine (wb_any w.heap.size w.heap.size [] 34 34 rfl _ (bd_new w) (by simp) (by simp)).mono ?_)
  rintro e W1 ⟨rfl, h1, b1, _⟩
  have b1 := ((Below.refl w.heap.size w).alloc (Nat.le_refl _) _).trans b1
  have hlt := bd_lt h1
  obtain ⟨K, hK⟩ : ∃ K, K = W1.heap.size := ⟨_, rfl⟩
  obtain ⟨B, hB⟩ : ∃ B, B = w.heap.size := ⟨_, rfl⟩
  have hit0 : (W1.iter s 0).heap[K]? = some (.stringIter s 0) := by rw [hK]; exact World.iter_heap W1 s 0
  have hI0 : Bd B B [34] (W1.iter s 0) := by rw [hB]; exact h1.alloc _
  have hbel0 : Below B w (W1.iter s 0) := by rw [hB]; exact b1.alloc (by have := b1.size; omega) _
  rw [← hK, ← hB] at hlt
  go_wp2
  rw [← hK, ← hB]
  have HK := Lib.hid hK
  have HB := Lib.hid hB
  clear hK hB h1 b1
  go_loopw [] (fun wr => ∃ (pos b : Nat) (rs : List Nat), wr.heap[K]? = some (.stringIter s pos) ∧ Bd B B (34 :: qrs rs) wr ∧ rs ++ sg s b pos = signs s ∧ s.size ≤ pos + b ∧ rs.length ≤ pos ∧ pos ≤ s.size + 4 ∧ Below B w wr)
    (fun wr => s.size - wr.iterPos K)
  case atStart => exact ⟨0, s.size, [], hit0, hI0, rfl, by omega, by simp, by omega, hbel0⟩
  case round =>
    obtain ⟨pos, b, rs, hit, hI, hc, hb, hk, hp4, hbl⟩ := hrel
    clear hit0 hI0 hbel0
    have hsz : K < wr.heap.size := (Array.getElem?_eq_some_iff.1 hit).1
    have hql := qrs_len rs
    by_cases hp : pos < s.size
    · have hnx : ∀ ty, (Instr.next (.pointer (some ⟨K, 0, none⟩)) true ty).run Tryd.prog wr = _ := fun ty => Lib.run_next_any_at wr K s pos ty hit hp
      have hwd := width_pos s pos hp
      have hwd4 : (Utf8.decode s pos).2 ≤ 4 := decode_w4 s pos
      have hit2 := Lib.iterAt_heap wr K s pos (pos + (Utf8.decode s pos).2) hit
      have hI2 := hI.iterAt hit (pos + (Utf8.decode s pos).2)
      have hbl2 := Lib.below_iterAt hbl (Nat.le_of_lt hlt) s (pos + (Utf8.decode s pos).2)
      have hsz2 : K < (wr.iterAt K s (pos + (Utf8.decode s pos).2)).heap.size := by rw [Lib.iterAt_size]; exact hsz
      obtain ⟨b', rfl⟩ : ∃ b', b = b' + 1 := ⟨b - 1, by omega⟩
      have hsg : sg s (b' + 1) pos = (Utf8.decode s pos).1 :: sg s b' (pos + (Utf8.decode s pos).2) := by simp [sg, hp]
      rw [hsg] at hc
      clear hsg
      have hr0 := decode_le s pos
      have HC := Lib.hid hc
      clear hc
      obtain ⟨wn, hwn⟩ : ∃ wn, wn = wr.iterAt K s (pos + (Utf8.decode s pos).2) := ⟨_, rfl⟩
      have hips : wr.iterPos K = pos := iterPos_of hit
      rw [← hwn] at hit2 hI2 hbl2 hnx hsz2
      obtain ⟨r, hr⟩ : ∃ r, r = (Utf8.decode s pos).1 := ⟨_, rfl⟩
      obtain ⟨wd, hwdd⟩ : ∃ wd, wd = (Utf8.decode s pos).2 := ⟨_, rfl⟩
      rw [← hr] at hnx HC hr0
      rw [← hwdd] at hit2 HC hwd hwd4
      clear hr hwdd hwn hit hI hbl hsz
      have fin : ∀ w3, Bd B B ((34 :: qrs rs) ++ qr r) w3 → w3.heap[K]? = some (.stringIter s (pos + wd)) → Below B wn w3 → ∃ (pos b : Nat) (rs : List Nat), w3.heap[K]? = some (.stringIter s pos) ∧ Bd B B (34 :: qrs rs) w3 ∧ rs ++ sg s b pos = signs s ∧ s.size ≤ pos + b ∧ rs.length ≤ pos ∧ pos ≤ s.size + 4 ∧ Below B w w3 := by
        intro w3 h3 hi3 hb3
        refine ⟨pos + wd, b', rs ++ [r], hi3, ?_, ?_, by omega, by simp; omega, by omega, hbl2.trans hb3⟩
        · rw [qrs_append, qrs_cons, qrs_nil, List.append_nil]; exact h3
        · rw [← HC.out]; simp
      have FIN := Lib.hid fin
      clear fin
      have e34 : (34 :: qrs rs) ++ [92] ++ Lib.encodeRune ((34 : Nat) : Int) = (34 :: qrs rs) ++ qr 34 := by rw [enc_ascii1 34 (by omega)]; simp [qr]
      have e92 : (34 :: qrs rs) ++ [92] ++ Lib.encodeRune ((92 : Nat) : Int) = (34 :: qrs rs) ++ qr 92 := by rw [enc_ascii1 92 (by omega)]; simp [qr]
      have e10 : (34 :: qrs rs) ++ [92, 110] = (34 :: qrs rs) ++ qr 10 := by simp [qr]
      by_cases c1 : r = 34
      · subst c1
        go_wp2_with (go_at_call 26; refine (wb_any B B _ 92 92 rfl _ hI2 (by simp; omega) (by omega)).mono ?_)
        rintro e W2 ⟨rfl, h2, b2, k2⟩
        have hs2 := b2.size
        go_wp2_with (go_at_call 27; refine (wr_any B B _ 34 (by omega) _ h2 (by simp; omega) (by omega)).mono ?_)
        rintro e W3 ⟨⟨n3, rfl⟩, h3, b3, k3⟩
        have hi3 := k3.iter (k2.iter hit2 (by omega)) (by omega)
        go_wp2
        go_roundw
        case rel => exact FIN.out _ (e34 ▸ h3) hi3 (b2.trans b3)
        case measure => rw [hips, iterPos_of hi3]; omega
      · by_cases c2 : r = 92
        · subst c2
          go_wp2_with (go_at_call 26; refine (wb_any B B _ 92 92 rfl _ hI2 (by simp; omega) (by omega)).mono ?_)
          rintro e W2 ⟨rfl, h2, b2, k2⟩
          have hs2 := b2.size
          go_wp2_with (go_at_call 27; refine (wr_any B B _ 92 (by omega) _ h2 (by simp; omega) (by omega)).mono ?_)
          rintro e W3 ⟨⟨n3, rfl⟩, h3, b3, k3⟩
          have hi3 := k3.iter (k2.iter hit2 (by omega)) (by omega)
          go_wp2
          go_roundw
          case rel => exact FIN.out _ (e92 ▸ h3) hi3 (b2.trans b3)
          case measure => rw [hips, iterPos_of hi3]; omega
        · by_cases c3 : r = 10
          · subst c3
            go_wp2_with (go_at_call 28; refine (ws_any B B _ _ _ hI2 (by simp [ByteArray.size]; omega) (by omega)).mono ?_; rintro e W3 ⟨rfl, h3, b3, k3⟩)
            have hi3 := k3.iter hit2 (by omega)
            go_roundw
            case rel => exact FIN.out _ (by first | exact h3 | exact e10 ▸ h3 | simpa using h3) hi3 b3
            case measure => rw [hips, iterPos_of hi3]; omega
          · have g1 : ((r : Int) == 34) = false := by rw [beq_eq_false_iff_ne]; omega
            have g2 : ((r : Int) == 92) = false := by rw [beq_eq_false_iff_ne]; omega
            have g3 : ((r : Int) == 10) = false := by rw [beq_eq_false_iff_ne]; omega
            have eq : qr r = Lib.encodeRune (r : Int) := by simp [qr, c1, c2, c3]
            have EQ := Lib.hid eq
            clear eq c1 c2 c3
            go_wp2_with (go_at_call 27; refine (wr_any B B _ r hr0 _ hI2 (by simp; omega) (by omega)).mono ?_)
            rintro e W3 ⟨⟨n3, rfl⟩, h3, b3, k3⟩
            have hi3 := k3.iter hit2 (by omega)
            go_wp2
            go_roundw
            case rel => exact FIN.out _ (by rw [EQ.out]; exact h3) hi3 b3
            case measure => rw [hips, iterPos_of hi3]; omega
    · have hnx : ∀ ty, (Instr.next (.pointer (some ⟨K, 0, none⟩)) true ty).run Tryd.prog wr = _ := fun ty => Lib.run_next_end_at wr K s pos ty hit hp
      rw [sg_end s b pos hp, List.append_nil] at hc
      subst hc
      go_wp2_with (go_at_call 26; refine (wb_any B B _ 34 34 rfl _ hI (by simp; omega) (by omega)).mono ?_)
      rintro e W2 ⟨rfl, h2, b2, k2⟩
      have hs2 := b2.size
      go_wp2_with (go_at_call 29; refine (bs_any B B _ _ h2 (by omega)).mono ?_)
      rintro e W3 ⟨rfl, h3, b3, k3⟩
      go_wp2
      go_ret
      exact ⟨rfl, HB.out ▸ ((hbl.trans b2).trans b3)⟩
end Go.Proofs.YtgkmfhhoifbbbaaDoor
