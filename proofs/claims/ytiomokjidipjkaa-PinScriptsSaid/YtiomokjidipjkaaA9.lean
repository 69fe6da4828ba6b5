/- walks: Masked, twice -/
import Derived.Test.YtiomokjidipjkaaA8
namespace Go.Proofs.Ytiomokjidipjkaa
open Go.RowKit
theorem signs_le (s : ByteArray) : ∀ r ∈ signs s, r ≤ 1114111 := by
  have : ∀ b pos, ∀ r ∈ sg s b pos, r ≤ 1114111 := by
    intro b
    induction b with
    | zero => intro pos r h; simp [sg] at h
    | succ b ih =>
      intro pos r h
      unfold sg at h
      split at h
      · rcases List.mem_cons.1 h with rfl | h
        · exact decode_le s pos
        · exact ih _ r h
      · simp at h
  exact this _ _
theorem maskL_le : ∀ (l : List Nat), (∀ r ∈ l, r ≤ 1114111) → ∀ r ∈ maskL l, r ≤ 1114111
  | [], _, r, h => by simp [maskL] at h
  | a :: l, hl, r, h => by
    simp only [maskL, List.mem_cons] at h
    rcases h with rfl | h
    · split
      · omega
      · exact hl a (by simp)
    · exact maskL_le l (fun x hx => hl x (by simp [hx])) r h
theorem runesBytes_enc (l : List Nat) (h : ∀ r ∈ l, r ≤ 1114111) : runesBytes (l.map fun (r : Nat) => (r : Int)) = ⟨(encL l).toArray⟩ := by
  have gen : ∀ (l : List Nat) (a : List UInt8), (∀ r ∈ l, r ≤ 1114111) → (l.map fun (r : Nat) => (r : Int)).foldl (fun r n => r ++ Utf8.encode n) ⟨a.toArray⟩ = (⟨(a ++ encL l).toArray⟩ : ByteArray) := by
    intro l
    induction l with
    | nil => intro a _; simp [encL]
    | cons r l ih =>
      intro a h
      have e : ((⟨a.toArray⟩ : ByteArray) ++ Utf8.encode (r : Int)) = ⟨(a ++ Lib.encodeRune (r : Int)).toArray⟩ := by
        rw [encode_ok r (h r (by simp))]
        apply ByteArray.ext
        simp
      simp only [List.map_cons, List.foldl_cons, e]
      rw [ih _ (fun x hx => h x (by simp [hx]))]
      simp [encL]
  have := gen l [] h
  rw [List.nil_append] at this
  exact this
set_option maxHeartbeats 2000000 in
set_option maxRecDepth 100000 in
theorem refMasked_any (s : ByteArray) (hs : s.size ≤ 35184372088832) (w : World) :
    Calls Try.prog 17 #[.string s] w fun e w' => e = .returned (.string (maskB s)) ∧ Below w.heap.size w w' := by
  have hsl : (signs s).length ≤ s.size := by have := sg_length s s.size 0; unfold signs; omega
  obtain ⟨B, hB⟩ : ∃ B, B = w.heap.size := ⟨_, rfl⟩
  have hfin : Hid (∀ (k : Nat), (k + 2 = (signs s).length ∨ (k = 0 ∧ (signs s).length ≤ 2)) → runesBytes ((dotK k (signs s)).map fun (r : Nat) => (r : Int)) = maskB s) := Lib.hid (by
    intro k hk
    rw [dotK_end _ _ hk, runesBytes_enc _ (maskL_le _ (signs_le s))]
    rfl)
  go_enter Try.func17, Try.ntmps17
  go_wp2_with (first | (go_at_call 18; refine (refSigns_any s hs _).mono ?_; rintro e w1 ⟨v, rfl, hown, hbel⟩))
  obtain ⟨va, vc, rfl, hlen, _⟩ := own_len hown
  obtain ⟨n, hn⟩ : ∃ n, n = (signs s).length := ⟨_, rfl⟩
  rw [← hn]
  rw [← hn] at hown hlen hsl
  rw [← hB] at hown hbel
  have hn' := Lib.hid hn
  clear hn
  have HB := Lib.hid hB
  clear hB
  go_loopw [4] (fun i wr => ∃ k : Nat, k ≤ n ∧ (k + 2 ≤ n ∨ k = 0) ∧ i = .int .i64 k ∧ wr.ownsRow B 21 1 (.slice va n vc) n (runeCellsOf (dotK k (signs s))) ∧ Below B w wr) (fun i _ => n - (intOf i).toNat)
  case atStart => exact ⟨0, Nat.zero_le _, .inr rfl, rfl, by simpa [dotK] using hown, hbel⟩
  case round =>
    obtain ⟨k, hk, hk2, rfl, hown, hbel⟩ := hrel
    by_cases hlt : k + 2 < n
    · have q1 : ((k : Int) + 2) < (n : Int) := by omega
      have q2 : (0 : Int) ≤ (k : Int) := by omega
      have q3 : (k : Int) < (n : Int) := by omega
      have q4 : k < n := by omega
      obtain ⟨g, hg⟩ : ∃ g, va = some ⟨g, 0, none⟩ := by
        rcases hown.2 with ⟨h, h0⟩ | ⟨g, cap, cur, h, _⟩
        · omega
        · simp only [Value.slice.injEq] at h; exact ⟨g, h.1⟩
      subst hg
      have hdl : (runeCellsOf (dotK k (signs s))).length = n := by rw [runeCellsOf_length, dotK_length _ _ (by rw [← hn'.out]; exact hk), hn'.out]
      obtain ⟨x, hx⟩ : ∃ x, (runeCellsOf (dotK k (signs s)))[k]? = some (.int .i32 x) := by
        have hkl : k < (dotK k (signs s)).length := by rw [runeCellsOf_length] at hdl; omega
        refine ⟨((dotK k (signs s))[k] : Int), ?_⟩
        simp [runeCellsOf, List.getElem?_eq_getElem hkl]
      have hcell : wr.cell? ⟨g, k, none⟩ = some (.int .i32 x) := by rw [hown.cellAt k (by omega)]; exact hx
      have hfr : wr.frozen? ⟨g, k, none⟩ = false := hown.frozenAt k
      have hst := hown.stored k (.int .i32 8226)
      have hset : (runeCellsOf (dotK k (signs s))).set k (.int .i32 8226) = runeCellsOf (dotK (k + 1) (signs s)) := by
        rw [← dotK_set k (signs s) (by rw [← hn'.out]; exact q4)]
        simp [runeCellsOf, List.map_set]
      rw [hset] at hst
      have hgb : B ≤ g := (hown.lt g rfl).1
      have hbel2 : Below B w (wr.setCell ⟨g, k, none⟩ (.int .i32 8226)) := hbel.setCell (p := ⟨g, k, none⟩) hgb _
      have HS := Lib.hid hst.1
      clear hst hset hx hdl hown hbel
      go_wp2
      go_roundw
      case rel => exact ⟨k + 1, by omega, by omega, by go_num, HS.out, hbel2⟩
      case measure => simp [intOf]; omega
    · have q1 : ¬ ((k : Int) + 2) < (n : Int) := by omega
      have q2 : (0 : Int) ≤ (k : Int) := by omega
      have hcv : ∀ w0, w0 = wr → (convert 22 9 (.slice va n vc)).run Try.prog w0 = .ok (.string (maskB s)) w0 := by
        intro w0 hw0
        subst hw0
        have hkk : (k + 2 = (signs s).length ∨ (k = 0 ∧ (signs s).length ≤ 2)) := by rw [← hn'.out]; omega
        have hf := hfin.out k hkk
        have hdl : (dotK k (signs s)).length = n := by rw [dotK_length _ _ (by rw [← hn'.out]; exact hk), hn'.out]
        rcases hown.2 with ⟨h, h0⟩ | ⟨g, cap, cur, h, _, hg, _⟩
        · simp only [Value.slice.injEq] at h
          obtain ⟨rfl, _, rfl⟩ := h
          rw [run_convert_runes_nil _ 22 9 21 n 0 Try.underlying22 Try.underlying21 Try.underlying9]
          rw [h0] at hdl
          rw [List.eq_nil_of_length_eq_zero hdl] at hf
          rw [← hf]; rfl
        · simp only [Value.slice.injEq] at h
          obtain ⟨rfl, _, rfl⟩ := h
          rw [run_convert_runes _ 22 9 21 ⟨g, 0, none⟩ n vc ((dotK k (signs s)).map fun (r : Nat) => (r : Int)) (by simp [hdl]) Try.underlying22 Try.underlying21 Try.underlying9 ?_]
          · rw [List.take_of_length_le (by simp [hdl]), hf]
          · intro j hj
            simp at hj
            have e1 : (⟨g, 0, none⟩ : Addr).add j = ⟨g, j, none⟩ := by rw [Addr.add_lit]; simp
            rw [e1, hown.cellAt j (by omega)]
            simp [runeCellsOf, List.getElem?_eq_getElem hj, List.getD]
      have hcv' := hcv wr rfl
      clear hcv
      go_wp2
      go_ret
      exact ⟨rfl, HB.out ▸ hbel⟩

theorem copyCheck_fresh (b : Nat) (w : World) (h0 : w.cell? ⟨b, 0, none⟩ = some (.pointer none)) (hsh : w.shape? b = some (45, 2)) (hfz : w.frozen? ⟨b, 0, none⟩ = false) :
    Calls Try.prog 24 #[.pointer (some ⟨b, 0, none⟩)] w fun e w' => e = .returned (.tuple #[]) ∧ w' = w.setCell ⟨b, 0, none⟩ (.pointer (some ⟨b, 0, none⟩)) := by
  obtain ⟨j, hj, hjs⟩ := Option.map_eq_some_iff.1 Try.Builder_Extra_169.sizeBuilder
  go_enter Try.func24, Try.ntmps24
  go_wp2
  rw [Lib.run_to_unsafe w ⟨b, 0, none⟩ Try.underlying43 Try.underlying55 hj (by rw [hjs]; decide) hsh (Nat.zero_lt_succ 1)]
  simp only [Result.andThen]
  rw [Oper.upon_value]
  go_wp2
  rw [run_callFunc_extern Try.func26 (by kernel_rfl) (by kernel_rfl) (by kernel_rfl) (e := Extern.AbiNoEscape.same) (by kernel_rfl)]
  rw [Lib.run_noEscape]
  simp only [Result.andThen]
  rw [Oper.upon_value]
  go_wp2
  rw [Lib.run_from_unsafe w ⟨b, 0, none⟩ Try.underlying55 Try.underlying43 hj hsh Try.Builder_Extra_169.liesBuilder]
  simp only [Result.andThen]
  rw [Oper.upon_value]
  go_wp2
  go_end0
  exact ⟨rfl, rfl⟩
theorem copyCheck_used (b : Nat) (w : World) (h0 : w.cell? ⟨b, 0, none⟩ = some (.pointer (some ⟨b, 0, none⟩))) :
    Calls Try.prog 24 #[.pointer (some ⟨b, 0, none⟩)] w fun e w' => e = .returned (.tuple #[]) ∧ w' = w := by
  obtain ⟨j, hj, hjs⟩ := Option.map_eq_some_iff.1 Try.Builder_Extra_169.sizeBuilder
  go_enter Try.func24, Try.ntmps24
  go_wp2
  rw [Lib.run_neq_ptr_same w _ Try.underlying43 hj]
  go_wp2
  go_end0
  exact ⟨rfl, rfl⟩
theorem copyCheck_k (B b : Nat) (bs : List Value) (w : World) (h : Lib.IsBuilderF 45 5 B b bs w) :
    Calls Try.prog 24 #[.pointer (some ⟨b, 0, none⟩)] w fun e w' => e = .returned (.tuple #[]) ∧ (Lib.BuilderAtF 45 5 B b (.pointer (some ⟨b, 0, none⟩)) bs w' ∧ Below B w w' ∧ Lib.OthersKept 5 (some b) w w') := by
  rcases h with h | h
  · refine (copyCheck_fresh b w h.cell0 h.shape h.frozen0).mono ?_
    rintro e w' ⟨rfl, rfl⟩
    exact ⟨rfl, h.used _, (Below.refl B w).setCell (p := ⟨b, 0, none⟩) h.1 _, (Lib.OthersKept.refl _ _ w).setCell ⟨b, 0, none⟩ rfl _⟩
  · refine (copyCheck_used b w h.cell0).mono ?_
    rintro e w' ⟨rfl, rfl⟩
    exact ⟨rfl, h, Below.refl B _, Lib.OthersKept.refl _ _ _⟩
set_option maxHeartbeats 2000000 in
set_option maxRecDepth 100000 in
theorem writeRune_k (B b : Nat) (bs : List Value) (r : Int) (hr0 : -2147483648 ≤ r) (hr1 : r ≤ 2147483647) (w : World) (h : Lib.IsBuilderF 45 5 B b bs w) (hlen : bs.length + 4 ≤ 140737488355328) (hBw : B ≤ w.heap.size) :
    Calls Try.prog 21 #[.pointer (some ⟨b, 0, none⟩), .int .i32 r] w fun e w' => e = .returned (.tuple #[.int .i64 (Lib.runeCells r).length, .nilIface]) ∧ (Lib.BuilderAtF 45 5 B b (.pointer (some ⟨b, 0, none⟩)) (bs ++ Lib.runeCells r) w' ∧ Below B w w' ∧ Lib.OthersKept 5 (some b) w w') := by
  have hk4 := Lib.runeCells_le r
  go_enter Try.func21, Try.ntmps21
  go_wp2_with (go_at_call 24; refine (copyCheck_k B b bs _ h).mono ?_)
  rintro e w1 ⟨rfl, h1, hb1, hk1⟩
  obtain ⟨hB, v, hbk, hown, hne⟩ := h1
  obtain ⟨ao, cap, rfl⟩ : ∃ ao cap, v = .slice ao bs.length cap := by
    rcases hown.2 with ⟨hv, h0⟩ | ⟨g, cap, cur, fz, hv, _⟩
    · exact ⟨none, 0, by rw [hv, h0]⟩
    · exact ⟨_, _, hv⟩
  have c0 : w1.cell? ⟨b, 0, none⟩ = some (.pointer (some ⟨b, 0, none⟩)) := by rw [Lib.cell_of_heap hbk]; rfl
  have c1 : w1.cell? ⟨b, 1, none⟩ = some (.slice ao bs.length cap) := by rw [Lib.cell_of_heap hbk]; rfl
  go_wp2_with (go_at_call 25; refine (Try.utf8_AppendRune_row B _ bs.length bs r hr0 hr1 _ hown hlen (by have := hb1.size; omega)).mono ?_)
  rintro e w2 ⟨v', rfl, hown', o, hgrow⟩
  have hlt : b < w1.heap.size := by
    rcases Nat.lt_or_ge b w1.heap.size with h' | h'
    · exact h'
    · simp [Array.getElem?_eq_none h'] at hbk
  have hb2 : w2.heap[b]? = some (.cells #[.pointer (some ⟨b, 0, none⟩), .slice ao bs.length cap] 45 (0, 0)) := by
    rw [hgrow.block b (by simp; omega) (fun e => hne e.symm), Lib.alloc_old w1 _ b hlt]
    exact hbk
  have d0 : w2.cell? ⟨b, 0, none⟩ = some (.pointer (some ⟨b, 0, none⟩)) := by rw [Lib.cell_of_heap hb2]; rfl
  have d1 : w2.cell? ⟨b, 1, none⟩ = some (.slice ao bs.length cap) := by rw [Lib.cell_of_heap hb2]; rfl
  have f1 : w2.frozen? ⟨b, 1, none⟩ = false := Lib.frozen_of_heap hb2 1
  obtain ⟨g, cap', rfl⟩ : ∃ g cap', v' = .slice (some ⟨g, 0, none⟩) (bs.length + (Lib.runeCells r).length) cap' := by
    rcases hown'.2 with ⟨_, h0⟩ | ⟨g, cap', cur, fz, hv, _⟩
    · omega
    · exact ⟨g, cap', hv⟩
  go_wp2
  go_ret2
  refine ⟨?_, ?_, ?_, ((hk1.alloc _).grown hgrow (Lib.ownsRowF_kind (hown.alloc _))).setCell ⟨b, 1, none⟩ rfl _⟩
  · have e : ((bs.length : Int) + ((Lib.runeCells r).length : Int) - (bs.length : Int)) = ((Lib.runeCells r).length : Int) := by omega
    simp [e]
  · exact Lib.BuilderAtF.put (T := 45) (e := 5) hB hb2 (bs' := bs ++ Lib.runeCells r) (by simpa using hown') Try.Builder_Extra_169.neB5
  · exact ((hb1.alloc (by have := hb1.size; omega) _).grown hgrow (by have := hb1.size; simp; omega) (fun k hk => (hown.lt k hk).1)).setCell (p := ⟨b, 1, none⟩) hB _

theorem encL_cons (r : Nat) (l : List Nat) : encL (r :: l) = Lib.encodeRune (r : Int) ++ encL l := by simp [encL]
theorem encL_append (a b : List Nat) : encL (a ++ b) = encL a ++ encL b := by simp [encL]
set_option maxHeartbeats 4000000 in
set_option maxRecDepth 1000000 in
theorem masked_any (s : ByteArray) (hs : s.size ≤ 35184372088832) (w : World) :
    Calls Try.prog 12 #[.string s] w fun e w' => e = .returned (.string (maskB s)) ∧ Below w.heap.size w w' := by
  have hsl : (signs s).length ≤ s.size := by have := sg_length s s.size 0; unfold signs; omega
  go_enter Try.func12, Try.ntmps12
  go_wp2_with (first | (go_at_call 13; refine (count_any s (by unfold maxLen; omega) _).mono ?_; rintro e w1 ⟨rfl, hbel⟩))
  obtain ⟨n, hn⟩ : ∃ n, n = (signs s).length := ⟨_, rfl⟩
  obtain ⟨b, hb⟩ : ∃ b, b = w1.heap.size := ⟨_, rfl⟩
  rw [← hn, ← hb]
  have hsz := hbel.size
  have hBb : w.heap.size ≤ b := by rw [hb]; exact hsz
  rw [← hn] at hsl
  have hB0 : Lib.IsBuilderF 45 5 b b (Lib.byteCells []) ((w1.alloc (.cells #[.pointer none, .slice none 0 0] 45)).iter s 0) := by rw [hb]; exact (Lib.IsBuilderF.of (Lib.fresh_isBuilder 45 5 w1)).alloc _
  have hit0 : ((w1.alloc (.cells #[.pointer none, .slice none 0 0] 45)).iter s 0).heap[b + 1]? = some (.stringIter s 0) := by
    have := World.iter_heap (w1.alloc (.cells #[.pointer none, .slice none 0 0] 45)) s 0
    rw [hb]; simpa using this
  have hbel0 : Below b w1 ((w1.alloc (.cells #[.pointer none, .slice none 0 0] 45)).iter s 0) := by rw [hb]; exact ((Below.refl _ w1).alloc (Nat.le_refl _) _).alloc (by simp) _
  have hn' := Lib.hid hn
  have hb' := Lib.hid hb
  clear hn hb
  go_loopw [3, 6] (fun h _ wr => ∃ (pos fuel : Nat) (acc done : List Nat), Lib.IsBuilderF 45 5 b b (Lib.byteCells (encL acc)) wr ∧ wr.heap[b + 1]? = some (.stringIter s pos) ∧ Below b w1 wr ∧
      h = .int .i64 ((n : Int) - 2 - (done.length : Nat)) ∧ done ++ sg s fuel pos = signs s ∧ acc ++ maskL (sg s fuel pos) = maskL (signs s) ∧ acc.length = done.length ∧ s.size ≤ pos + fuel ∧ done.length ≤ pos ∧ (encL acc).length ≤ 4 * done.length)
    (fun _ _ wr => s.size - wr.iterPos (b + 1))
  case atStart =>
    refine ⟨0, s.size, [], [], hB0, hit0, hbel0, by simp, rfl, rfl, rfl, by omega, by simp, by simp [encL]⟩
  case round =>
    obtain ⟨pos, fuel, acc, done, hI, hit, hbw, rfl, hd, hacc, hal, hfu, hdl, hel⟩ := hrel
    clear hB0 hit0 hbel0
    have hsz1 : b + 1 < wr.heap.size := (Array.getElem?_eq_some_iff.1 hit).1
    by_cases hp : pos < s.size
    · have hnx : ∀ ty, (Instr.next (.pointer (some ⟨b + 1, 0, none⟩)) true ty).run Try.prog wr = _ := fun ty => Lib.run_next_any_at wr (b + 1) s pos ty hit hp
      have hwd := width_pos s pos hp
      have hd1 := decode_le s pos
      have hI2 := hI.iterAt hit (pos + (Utf8.decode s pos).2)
      have hit2 := Lib.iterAt_heap wr (b + 1) s pos (pos + (Utf8.decode s pos).2) hit
      have hbw2 := Lib.below_iterAt hbw (k := b + 1) (by omega) s (pos + (Utf8.decode s pos).2)
      have hsz2 : b ≤ (wr.iterAt (b + 1) s (pos + (Utf8.decode s pos).2)).heap.size := by rw [Lib.iterAt_size]; omega
      obtain ⟨f, rfl⟩ : ∃ f, fuel = f + 1 := ⟨fuel - 1, by omega⟩
      have hsg : sg s (f + 1) pos = (Utf8.decode s pos).1 :: sg s f (pos + (Utf8.decode s pos).2) := by simp [sg, hp]
      rw [hsg] at hd hacc
      clear hsg
      have hlen : done.length + 1 + (sg s f (pos + (Utf8.decode s pos).2)).length = n := by
        rw [hn'.out, ← hd]; simp; omega
      obtain ⟨r, hr⟩ : ∃ r, r = (Utf8.decode s pos).1 := ⟨_, rfl⟩
      obtain ⟨wd, hwdd⟩ : ∃ wd, wd = (Utf8.decode s pos).2 := ⟨_, rfl⟩
      obtain ⟨wn, hwn⟩ : ∃ wn, wn = wr.iterAt (b + 1) s (pos + (Utf8.decode s pos).2) := ⟨_, rfl⟩
      have hips : wr.iterPos (b + 1) = pos := iterPos_of hit
      rw [← hwn] at hI2 hit2 hbw2 hsz2 hnx
      rw [← hr] at hnx hd hacc hd1
      rw [← hwdd] at hit2 hd hacc hwd hlen
      clear hr hwdd hwn hI hit hbw hsz1
      obtain ⟨rest, hrest⟩ : ∃ rest, rest = sg s f (pos + wd) := ⟨_, rfl⟩
      rw [← hrest] at hd hacc hlen
      have HR := Lib.hid hrest
      have HD := Lib.hid hd
      clear hrest hd
      obtain ⟨d, hdd⟩ : ∃ d, d = done.length := ⟨_, rfl⟩
      rw [← hdd] at hlen hdl hal hel
      rw [← hdd]
      have HDD := Lib.hid hdd
      clear hdd
      have hdn : d + 1 + rest.length = n := hlen
      have hdr : d < n := by omega
      have HL := Lib.hid hlen
      clear hlen hdn
      by_cases hh : 2 ≤ rest.length
      · have q1 : (0 : Int) < (n : Int) - 2 - (d : Int) := by have := HL.out; omega
        have hm : maskL (r :: rest) = 8226 :: maskL rest := by simp [maskL, hh]
        rw [hm] at hacc
        have HA := Lib.hid hacc
        clear hacc hm hh
        go_wp2_with (go_at_call 21; refine (writeRune_k b b _ 8226 (by omega) (by omega) _ hI2 (by rw [Lib.byteCells_length]; omega) hsz2).mono ?_; rintro e W1 ⟨rfl, h1, b1, k1⟩)
        go_roundw
        case rel =>
          have hl4 := Lib.runeCells_le (8226 : Int)
          rw [Lib.runeCells_length] at hl4
          refine ⟨pos + wd, f, acc ++ [8226], done ++ [r], ?_, k1.iter hit2 (by omega), hbw2.trans b1, ?_, ?_, ?_, by simp; have := HDD.out; omega, by omega, by simp; have := HDD.out; omega, ?_⟩
          · rw [encL_append, Lib.byteCells_append]
            have : encL [8226] = Lib.encodeRune (8226 : Int) := by simp [encL]
            rw [this, Lib.byteCells_encodeRune]; exact Or.inr h1
          · simp; rw [← HDD.out]; omega
          · rw [← HR.out, ← HD.out]; simp
          · rw [← HR.out, ← HA.out]; simp
          · rw [encL_append]
            have : encL [8226] = Lib.encodeRune (8226 : Int) := by simp [encL]
            rw [this]; simp; rw [← HDD.out]; omega
        case measure =>
          rw [hips, iterPos_of (k1.iter hit2 (by omega))]; omega
      · have q1 : (n : Int) - 2 ≤ (d : Int) := by have := HL.out; omega
        have q1' : ¬ (d : Int) < (n : Int) - 2 := by omega
        have q1'' : (n : Int) - 2 - (d : Int) ≤ 0 := by omega
        have hm : maskL (r :: rest) = r :: maskL rest := by simp [maskL, hh]
        rw [hm] at hacc
        have HA := Lib.hid hacc
        clear hacc hm hh
        go_wp2_with (go_at_call 21; refine (writeRune_k b b _ r (by omega) (by omega) _ hI2 (by rw [Lib.byteCells_length]; omega) hsz2).mono ?_; rintro e W1 ⟨rfl, h1, b1, k1⟩)
        go_roundw
        case rel =>
          have hl4 := Lib.runeCells_le (r : Int)
          rw [Lib.runeCells_length] at hl4
          refine ⟨pos + wd, f, acc ++ [r], done ++ [r], ?_, k1.iter hit2 (by omega), hbw2.trans b1, ?_, ?_, ?_, by simp; have := HDD.out; omega, by omega, by simp; have := HDD.out; omega, ?_⟩
          · rw [encL_append, Lib.byteCells_append]
            have : encL [r] = Lib.encodeRune (r : Int) := by simp [encL]
            rw [this, Lib.byteCells_encodeRune]; exact Or.inr h1
          · simp; rw [← HDD.out]; omega
          · rw [← HR.out, ← HD.out]; simp
          · rw [← HR.out, ← HA.out]; simp
          · rw [encL_append]
            have : encL [r] = Lib.encodeRune (r : Int) := by simp [encL]
            rw [this]; simp; rw [← HDD.out]; omega
        case measure =>
          rw [hips, iterPos_of (k1.iter hit2 (by omega))]; omega
    · have hnx : ∀ ty, (Instr.next (.pointer (some ⟨b + 1, 0, none⟩)) true ty).run Try.prog wr = _ := fun ty => Lib.run_next_end_at wr (b + 1) s pos ty hit hp
      rw [sg_end s fuel pos hp] at hd hacc
      simp only [maskL, List.append_nil] at hacc
      have hdn : done.length = n := by rw [hn'.out, ← hd]; simp
      have HA := Lib.hid hacc
      clear hacc hd
      go_wp2_with (go_at_call 22; refine (Try.Builder_String_any_k b b (encL acc) _ hI (by omega)).mono ?_)
      rintro e W1 ⟨rfl, _, b1, _⟩
      go_wp2
      go_ret
      refine ⟨ret_eq (congrArg Value.string ?_), hbel.trans ((hbw.trans b1).mono hBb)⟩
      unfold maskB; rw [← HA.out]
end Go.Proofs.Ytiomokjidipjkaa
