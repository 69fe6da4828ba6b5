/- The program's quoted and Unquote: what they tell of any text. -/
import Derived.Test.YtgkmfhhoifbbbaaDoorYc
import Derived.Deep.RegionWith
namespace Go.Proofs.YtgkmfhhoifbbbaaDoor
open Go Go.RowKit
def quotedV (t : List UInt8) : Value := match quotedF t with
  | none => .tuple #[.string ⟨#[]⟩, .int .i64 0, .bool false]
  | some (q, n) => .tuple #[.string ⟨(encL q).toArray⟩, .int .i64 n, .bool true]
theorem hp34_nil : Lib.hasPrefix [] [34] = false := rfl
theorem hp34_cons (c : UInt8) (t : List UInt8) : Lib.hasPrefix (c :: t) [34] = (34 == c) := by simp [Lib.hasPrefix, List.isPrefixOf]
theorem ba_mk (s : ByteArray) : (⟨s.data.toList.toArray⟩ : ByteArray) = s := by simp
set_option maxHeartbeats 4000000 in
set_option maxRecDepth 100000 in
theorem quoted_any (s : ByteArray) (hs : s.size ≤ 1099511627776) (w : World) :
    Calls Tryd.prog 30 #[.string s] w fun e w' => e = .returned (quotedV s.data.toList) ∧ Below w.heap.size w w' := by
  have hsl := len_list s
  rcases hL : s.data.toList with _ | ⟨c, t⟩
  · have hcp := Tryd.strings_CutPrefix s ⟨#[34]⟩ w
    rw [hL] at hcp
    have hv : quotedV [] = .tuple #[.string ⟨#[]⟩, .int .i64 0, .bool false] := rfl
    rw [hv]
    go_enter Tryd.func30, Tryd.ntmps30
    go_wp2_with (go_at_call 45; refine hcp.mono ?_; rintro e w' ⟨rfl, rfl⟩; rw [show Lib.hasPrefix [] _ = false from rfl])
    go_ret3
    exact ⟨rfl, Below.refl _ _⟩
  by_cases hc : c = 34
  · subst hc
    have hcp := Tryd.strings_CutPrefix s ⟨#[34]⟩ w
    rw [hL] at hcp
    have hf : Lib.hasPrefix (34 :: t) [34] = true := rfl
    have ht : Lib.trimPrefix (34 :: t) [34] = t := rfl
    have hst : s.size = t.length + 1 := by rw [← hsl, hL]; simp
    obtain ⟨IN, hIN⟩ : ∃ IN : ByteArray, IN = ⟨t.toArray⟩ := ⟨_, rfl⟩
    have hIs : IN.size = t.length := by rw [hIN, size_mk]
    have hq : quotedV (34 :: t) = (match scanP IN IN.size 0 false [] with | none => .tuple #[.string ⟨#[]⟩, .int .i64 0, .bool false] | some (rs, i) => if quoteL rs = (34 :: t).take (i + 2) then .tuple #[.string ⟨(encL rs).toArray⟩, .int .i64 ((i + 2 : Nat) : Int), .bool true] else .tuple #[.string ⟨#[]⟩, .int .i64 0, .bool false]) := by
      unfold quotedV; rw [quotedF_cons, if_pos rfl, hIs, hIN]
      cases scanP ⟨t.toArray⟩ t.length 0 false [] with
      | none => rfl
      | some x =>
        obtain ⟨rs, i⟩ := x
        by_cases e : quoteL rs = (34 :: t).take (i + 2)
        · simp only [if_pos e]
        · simp only [if_neg e]
    obtain ⟨R, hR⟩ : ∃ R, R = quotedV (34 :: t) := ⟨_, rfl⟩
    rw [← hR]
    rw [← hR] at hq
    clear hR
    have HQ := Lib.hid hq
    have HIN := Lib.hid hIN
    clear hq hIN
    obtain ⟨B, hB⟩ : ∃ B, B = w.heap.size := ⟨_, rfl⟩
    have hI0 : Bd B B [] ((w.alloc (.cells #[.pointer none, .slice none 0 0] 62)).iter IN 0) := by rw [hB]; exact (bd_new w).alloc _
    have hit0 : ((w.alloc (.cells #[.pointer none, .slice none 0 0] 62)).iter IN 0).heap[B + 1]? = some (.stringIter IN 0) := by
      have := World.iter_heap (w.alloc (.cells #[.pointer none, .slice none 0 0] 62)) IN 0
      rw [hB]; simpa using this
    have hbel0 : Below B w ((w.alloc (.cells #[.pointer none, .slice none 0 0] 62)).iter IN 0) := by rw [hB]; exact ((Below.refl _ w).alloc (Nat.le_refl _) _).alloc (by simp) _
    go_enter Tryd.func30, Tryd.ntmps30
    go_wp2_with (go_at_call 45; refine hcp.mono ?_; rintro e w ⟨rfl, rfl⟩; rw [show Lib.hasPrefix (34 :: t) _ = true from hf, show Lib.trimPrefix (34 :: t) _ = t from ht, ← HIN.out])
    clear hcp hf ht
    rw [← hB]
    have HB := Lib.hid hB
    clear hB
    go_loopw [8] (fun v wr => ∃ (pos b : Nat) (bh : Bool) (rs : List Nat), wr.heap[B + 1]? = some (.stringIter IN pos) ∧ Bd B B (encL rs) wr ∧ scanP IN b pos bh rs = scanP IN IN.size 0 false [] ∧ IN.size ≤ pos + b ∧ rs.length ≤ pos ∧ pos ≤ IN.size + 4 ∧ okRunes rs ∧ v = .bool bh ∧ Below B w wr)
      (fun _ wr => IN.size - wr.iterPos (B + 1))
    case atStart => exact ⟨0, IN.size, false, [], hit0, hI0, rfl, by omega, by simp, by omega, fun r hr => by simp at hr, rfl, hbel0⟩
    case round =>
      obtain ⟨pos, b, bh, rs, hit, hI, hc, hb, hk, hp4, hok, rfl, hbl⟩ := hrel
      clear hit0 hI0 hbel0
      have hsz : B + 1 < wr.heap.size := (Array.getElem?_eq_some_iff.1 hit).1
      have hel := enc_len rs
      by_cases hp : pos < IN.size
      · have hnx : ∀ ty, (Instr.next (.pointer (some ⟨B + 1, 0, none⟩)) true ty).run Tryd.prog wr = _ := fun ty => Lib.run_next_any_at wr (B + 1) IN pos ty hit hp
        have hwd := width_pos IN pos hp
        have hwd4 : (Utf8.decode IN pos).2 ≤ 4 := decode_w4 IN pos
        have hit2 := Lib.iterAt_heap wr (B + 1) IN pos (pos + (Utf8.decode IN pos).2) hit
        have hI2 := hI.iterAt hit (pos + (Utf8.decode IN pos).2)
        have hbl2 := Lib.below_iterAt hbl (Nat.le_succ B) IN (pos + (Utf8.decode IN pos).2)
        have hsz2 : B + 1 < (wr.iterAt (B + 1) IN (pos + (Utf8.decode IN pos).2)).heap.size := by rw [Lib.iterAt_size]; exact hsz
        obtain ⟨b', rfl⟩ : ∃ b', b = b' + 1 := ⟨b - 1, by omega⟩
        have hr0 := decode_le IN pos
        have hrok := decode_okRune IN pos
        rw [scanP_step IN b' pos bh rs hp (Utf8.decode IN pos).1 (Utf8.decode IN pos).2 rfl] at hc
        have hips : wr.iterPos (B + 1) = pos := iterPos_of hit
        obtain ⟨wn, hwn⟩ : ∃ wn, wn = wr.iterAt (B + 1) IN (pos + (Utf8.decode IN pos).2) := ⟨_, rfl⟩
        rw [← hwn] at hit2 hI2 hbl2 hnx hsz2
        obtain ⟨r, hr⟩ : ∃ r, r = (Utf8.decode IN pos).1 := ⟨_, rfl⟩
        obtain ⟨wd, hwdd⟩ : ∃ wd, wd = (Utf8.decode IN pos).2 := ⟨_, rfl⟩
        rw [← hr] at hnx hc hr0 hrok
        rw [← hwdd] at hit2 hwd hwd4 hc
        clear hr hwdd hwn hit hI hbl hsz
        have HC := Lib.hid hc
        clear hc
        have fin : ∀ rs' bh' w3, okRune (rs'.getLastD 0) ∨ rs' = [] → Bd B B (encL (rs ++ rs')) w3 → rs'.length ≤ 1 → scanP IN b' (pos + wd) bh' (rs ++ rs') = scanP IN IN.size 0 false [] → w3.heap[B + 1]? = some (.stringIter IN (pos + wd)) → Below B wn w3 →
            ∃ (pos b : Nat) (bh : Bool) (rs : List Nat), w3.heap[B + 1]? = some (.stringIter IN pos) ∧ Bd B B (encL rs) w3 ∧ scanP IN b pos bh rs = scanP IN IN.size 0 false [] ∧ IN.size ≤ pos + b ∧ rs.length ≤ pos ∧ pos ≤ IN.size + 4 ∧ okRunes rs ∧ Value.bool bh' = .bool bh ∧ Below B w w3 := by
          intro rs' bh' w3 hr' h3 hl3 hs3 hi3 hb3
          refine ⟨pos + wd, b', bh', rs ++ rs', hi3, h3, hs3, by omega, by simp; omega, by omega, ?_, rfl, hbl2.trans hb3⟩
          match rs', hl3, hr' with
          | [], _, _ => simpa using hok
          | [x], _, hx => exact okRunes_snoc hok (by simpa using hx)
        have FIN := Lib.hid fin
        clear fin
        by_cases c1 : bh = false ∧ r = 34
        · obtain ⟨rfl, rfl⟩ := c1
          rw [if_pos ⟨rfl, rfl⟩] at HC
          have hRv : R = if quoteL rs = (34 :: t).take (pos + 2) then .tuple #[.string ⟨(encL rs).toArray⟩, .int .i64 ((pos + 2 : Nat) : Int), .bool true] else .tuple #[.string ⟨#[]⟩, .int .i64 0, .bool false] := by rw [HQ.out, ← HC.out]
          have HR := Lib.hid hRv
          have hsg := signs_enc rs hok
          have hlq := enc_len rs
          have l1 : (pos : Int) + 2 ≤ s.size := by omega
          clear hRv HQ HC FIN
          have hx : (s.extract 0 (pos + 2)).toList = (34 :: t).take (pos + 2) := by rw [Lib.toList_data, ByteArray.data_extract, Array.toList_extract, ← hL]; simp
          by_cases e : quoteL rs = (34 :: t).take (pos + 2)
          · have hRv : R = .tuple #[.string ⟨(encL rs).toArray⟩, .int .i64 ((pos + 2 : Nat) : Int), .bool true] := by rw [HR.out, if_pos e]
            have g : (quoteL rs == (s.extract 0 (pos + 2)).toList) = true := by rw [hx]; simpa using e
            have HV := Lib.hid hRv
            clear hRv HR e hx
            go_wp2_with (first
              | (go_at_call 29; refine (bs_any B B _ _ hI2 (by omega)).mono ?_; rintro e W2 ⟨rfl, h2, b2, k2⟩; have hs2 := b2.size))
            go_region_with (go_at_call 15; refine (quote_any _ (by rw [size_mk]; omega) _).mono ?_; rintro e W3 ⟨rfl, b3⟩; rw [hsg])
            all_goals (
              have b4 : Below B w W3 := by first | exact (hbl2.trans b2).trans (b3.mono (by omega)) | exact (hbl2.trans b2).drew.trans (b3.mono (by show B ≤ W2.heap.size; omega)) | exact (hbl2.trans b2).drew.drew.trans (b3.mono (by show B ≤ W2.heap.size; omega))
              clear b3
              go_wp2
              go_ret3
              exact ⟨by rw [HV.out]; rfl, HB.out ▸ b4⟩)
          · have hRv : R = .tuple #[.string ⟨#[]⟩, .int .i64 0, .bool false] := by rw [HR.out, if_neg e]
            have g : (quoteL rs == (s.extract 0 (pos + 2)).toList) = false := by rw [hx]; simpa using e
            have HV := Lib.hid hRv
            clear hRv HR e hx
            go_wp2_with (first
              | (go_at_call 29; refine (bs_any B B _ _ hI2 (by omega)).mono ?_; rintro e W2 ⟨rfl, h2, b2, k2⟩; have hs2 := b2.size))
            go_region_with (go_at_call 15; refine (quote_any _ (by rw [size_mk]; omega) _).mono ?_; rintro e W3 ⟨rfl, b3⟩; rw [hsg])
            all_goals (
              have b4 : Below B w W3 := by first | exact (hbl2.trans b2).trans (b3.mono (by omega)) | exact (hbl2.trans b2).drew.trans (b3.mono (by show B ≤ W2.heap.size; omega)) | exact (hbl2.trans b2).drew.drew.trans (b3.mono (by show B ≤ W2.heap.size; omega))
              clear b3
              go_wp2
              go_ret3
              exact ⟨by rw [HV.out]; rfl, HB.out ▸ b4⟩)
        · rw [if_neg c1] at HC
          have w10 : encL (rs ++ [10]) = encL rs ++ [10] := by rw [encL_append, encL_cons, enc_ascii1 10 (by omega)]; rfl
          have wr1 : encL (rs ++ [r]) = encL rs ++ Lib.encodeRune (r : Int) := by rw [encL_append, encL_cons]; simp [encL]
          have W := Lib.hid (And.intro w10 wr1)
          clear w10 wr1
          cases bh with
          | false =>
            have n34 : r ≠ 34 := fun e => c1 ⟨rfl, e⟩
            have g1 : ((r : Int) == 34) = false := by rw [beq_eq_false_iff_ne]; omega
            by_cases c2 : r = 92
            · subst c2
              rw [if_pos ⟨rfl, rfl⟩] at HC
              clear c1 n34 g1
              go_wp2
              go_roundw
              case rel => exact FIN.out [] true _ (.inr rfl) (by simpa using hI2) (by simp) (by simpa using HC.out) hit2 (Below.refl _ _)
              case measure => rw [hips, iterPos_of hit2]; omega
            · rw [if_neg (fun e => c2 e.2), if_neg (fun e => by cases e.1)] at HC
              have g2 : ((r : Int) == 92) = false := by rw [beq_eq_false_iff_ne]; omega
              clear c1 n34 c2
              go_wp2_with (go_at_call 27; refine (wr_any B B _ r hr0 _ hI2 (by omega) (by omega)).mono ?_; rintro e W3 ⟨⟨n3, rfl⟩, h3, b3, k3⟩)
              have hi3 := k3.iter hit2 (by omega)
              go_roundw
              case rel => exact FIN.out [r] false _ (.inl (by simpa using hrok)) (by rw [W.out.2]; exact h3) (by simp) HC.out hi3 b3
              case measure => rw [hips, iterPos_of hi3]; omega
          | true =>
            by_cases c2 : r = 110
            · subst c2
              rw [if_neg (fun e => by cases e.1), if_pos ⟨rfl, rfl⟩] at HC
              clear c1
              go_wp2_with (go_at_call 26; refine (wb_any B B _ 10 10 rfl _ hI2 (by omega) (by omega)).mono ?_; rintro e W3 ⟨rfl, h3, b3, k3⟩)
              have hi3 := k3.iter hit2 (by omega)
              go_roundw
              case rel => exact FIN.out [10] false _ (.inl (by unfold okRune; simp)) (by rw [W.out.1]; exact h3) (by simp) HC.out hi3 b3
              case measure => rw [hips, iterPos_of hi3]; omega
            · rw [if_neg (fun e => by cases e.1), if_neg (fun e => c2 e.2)] at HC
              have g2 : ((r : Int) == 110) = false := by rw [beq_eq_false_iff_ne]; omega
              clear c1 c2
              go_wp2_with (go_at_call 27; refine (wr_any B B _ r hr0 _ hI2 (by omega) (by omega)).mono ?_; rintro e W3 ⟨⟨n3, rfl⟩, h3, b3, k3⟩)
              have hi3 := k3.iter hit2 (by omega)
              go_roundw
              case rel => exact FIN.out [r] false _ (.inl (by simpa using hrok)) (by rw [W.out.2]; exact h3) (by simp) HC.out hi3 b3
              case measure => rw [hips, iterPos_of hi3]; omega
      · have hnx : ∀ ty, (Instr.next (.pointer (some ⟨B + 1, 0, none⟩)) true ty).run Tryd.prog wr = _ := fun ty => Lib.run_next_end_at wr (B + 1) IN pos ty hit hp
        have hn : scanP IN b pos bh rs = none := by
          cases b with
          | zero => rfl
          | succ b => unfold scanP; rw [if_neg hp]
        rw [hn] at hc
        have hRv : R = .tuple #[.string ⟨#[]⟩, .int .i64 0, .bool false] := by rw [HQ.out, ← hc]
        go_wp2
        go_ret3
        exact ⟨by rw [hRv]; rfl, HB.out ▸ hbl⟩
  · have hcp := Tryd.strings_CutPrefix s ⟨#[34]⟩ w
    rw [hL] at hcp
    have hv : quotedV (c :: t) = .tuple #[.string ⟨#[]⟩, .int .i64 0, .bool false] := by unfold quotedV; rw [quotedF_cons, if_neg hc]
    rw [hv]
    have hf : Lib.hasPrefix (c :: t) [34] = false := by rw [hp34_cons]; simp; exact fun e => hc e.symm
    go_enter Tryd.func30, Tryd.ntmps30
    go_wp2_with (go_at_call 45; refine hcp.mono ?_; rintro e w' ⟨rfl, rfl⟩; rw [show Lib.hasPrefix (c :: t) _ = false from hf])
    go_ret3
    exact ⟨rfl, Below.refl _ _⟩
end Go.Proofs.YtgkmfhhoifbbbaaDoor
